"""The owners of birds, and their accounts [o1, o2]."""

from homingtrue.clubs import bird_of
from homingtrue.lists import race_list
from homingtrue.pools import payments, stakes_in


def owner_in(club, transfers, ring, race):
    """The owner of a bird in a race."""
    owners = {}
    for moved, since, owner in transfers:
        if moved == ring and since <= race:
            owners[since] = owner
    if owners:
        return owners[max(owners)]
    loft = club[1][bird_of(club, ring)][1]
    return club[0][loft][0]


def accounts(club, clocks, slips, stakes, parts, transfers):
    """The sorted tuples (owner, sum) of the owners of birds with a stake."""
    sums = {}
    for race in range(len(club[2])):
        rows = race_list(club, clocks, slips, race)
        staked = stakes_in(stakes, race)
        for ring, units in payments(stakes, parts, race, rows):
            owner = owner_in(club, transfers, ring, race)
            sums[owner] = sums.get(owner, 0) + units - staked[ring]
    return sorted(sums.items())
