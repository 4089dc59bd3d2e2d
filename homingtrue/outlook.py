"""Lists with arrivals, and what can still come [k1, k2, k3, k4]."""

from homingtrue.clubs import bird_of
from homingtrue.flights import flight, speed_at
from homingtrue.fractions import is_less
from homingtrue.lists import place_in, race_list, ranked

NOUGHT = (0, 1)


def list_with(club, clocks, slips, race, arrivals):
    """The list of a race with rows for the arrivals that count."""
    found = [(ring, speed) for _, ring, speed in race_list(club, clocks, slips, race)]
    for ring, time in arrivals:
        speed = speed_home(club, race, ring, time)
        if speed is not None:
            found.append((ring, speed))
    return ranked(found)


def speed_home(club, race, ring, time):
    """The speed of a bird that comes home at a true time; None if it does not count."""
    return speed_at(club, race, club[1][bird_of(club, ring)][1], time)


def can_count(club, race):
    """Whether a bird that is out can come home so that it counts."""
    told = club[2][race]
    return is_less(NOUGHT, flight(told, (told[4], 1)))


def can_be_ahead(club, race, ring, now, speed):
    """Whether a bird that is out can be ahead of a speed."""
    greatest = speed_home(club, race, ring, (now, 1))
    if greatest is None:
        # It flies no time up to now: a short one behind it gives any speed.
        return can_count(club, race)
    return is_less(speed, greatest)


def is_out_of_reach(club, race, ring, now, speed):
    """Whether a bird that is out can neither be ahead of a speed nor have it."""
    greatest = speed_home(club, race, ring, (now, 1))
    if greatest is None:
        return not can_count(club, race)
    return is_less(greatest, speed)


def passers(club, race, entrants, now, rows, speed):
    """The rings of the birds that are out and can be ahead of a speed, by rising rings."""
    home = [ring for _, ring, _ in rows]
    return [ring for ring in entrants if ring not in home and can_be_ahead(club, race, ring, now, speed)]


def surely_faster(club, race, ring, now, rows):
    """The rings of the birds that are faster than one that is out, whenever it comes, rising."""
    return sorted([other for _, other, speed in rows if is_out_of_reach(club, race, ring, now, speed)])


def outlook(club, clocks, slips, race, entrants, now):
    """The tuples (ring, least, greatest) of all entrants, by rising rings."""
    rows = race_list(club, clocks, slips, race)
    return [(ring,) + places_of(club, race, entrants, now, rows, ring) for ring in entrants]


def places_of(club, race, entrants, now, rows, ring):
    """The least and the greatest place of an entrant."""
    place = place_in(rows, ring)
    if place is not None:
        speeds = {other: speed for _, other, speed in rows}
        return (place, place + len(passers(club, race, entrants, now, rows, speeds[ring])))
    if not can_count(club, race):
        return (None, None)
    return (1 + len(surely_faster(club, race, ring, now, rows)), None)


def settled(club, clocks, slips, race, entrants, now):
    """The rising list of the rings of the birds that are settled."""
    told = outlook(club, clocks, slips, race, entrants, now)
    return [ring for ring, least, greatest in told if greatest is not None and least == greatest]
