"""Stakes, and what is paid from the pools of races [p1, p2, p3]."""

from homingtrue.fractions import lowest, over, times
from homingtrue.lists import ranked
from homingtrue.season import race_points, sum_of
from homingtrue.slips import counting


def counting_stakes(stakes):
    """The sorted list of the stakes above 0 that count."""
    # As with slips, the first two parts tell which ones are of one kind.
    return [stake for stake in counting(stakes) if stake[2] > 0]


def stakes_in(stakes, race):
    """The dict from the rings with a stake above 0 in a race to its units, by rising rings."""
    return {ring: units for staked, ring, units in counting_stakes(stakes) if staked == race}


def pool(stakes, race):
    """The sum of the stakes in a race that count."""
    return sum(stakes_in(stakes, race).values())


def payments(stakes, parts, race, rows):
    """The tuples (ring, units) of what is paid in a race with a list, by rising rings."""
    staked = stakes_in(stakes, race)
    runners = ranked([(ring, speed) for _, ring, speed in rows if ring in staked])
    # Without runners the stakes go back.
    paid = shares(pool(stakes, race), parts, runners) if runners else staked
    return [(ring, paid.get(ring, 0)) for ring in staked]


def shares(total, parts, runners):
    """The dict from the rings of the runners to their units of a pool."""
    # A weight is shared among places as points are.
    weights = race_points(runners, parts)
    whole = sum_of(list(weights.values()))
    units = {}
    rests = []
    for _, ring, _ in runners:
        p, q = times((total, 1), over(weights[ring], whole))
        units[ring], rest = divmod(p, q)
        rests.append((ring, lowest(rest, q)))
    left = total - sum(units.values())
    for ring in in_turn(rests, runners)[:left]:
        units[ring] += 1
    return units


def in_turn(rests, runners):
    """The rings in the order in which they get the units that are left over."""
    places = {ring: place for place, ring, _ in runners}
    order = sorted([(place, places[ring], ring) for place, ring, _ in ranked(rests)])
    return [ring for _, _, ring in order]
