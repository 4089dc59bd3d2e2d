"""Papers, which show the outlook of an entrant [w1, w2]."""

from math import isqrt

from homingtrue.clubs import bird_of
from homingtrue.distances import square_distance
from homingtrue.flights import DAY, flight
from homingtrue.fractions import is_less, plus
from homingtrue.lists import race_list
from homingtrue.outlook import can_count, passers, speed_home, surely_faster

NOUGHT = (0, 1)


def paper_of(club, clocks, slips, race, entrants, now, ring):
    """A right paper for the outlook of an entrant."""
    rows = race_list(club, clocks, slips, race)
    if ring in [other for _, other, _ in rows]:
        return paper_of_home(club, race, entrants, now, rows, ring)
    if not can_count(club, race):
        return ((), (), (), ())
    # A bird that is ahead of all that it can be ahead of has its least place.
    fastest = rows[0][2] if rows else NOUGHT
    first = ((ring, early_time(club, race, ring, now, fastest)),)
    return (first, (), tuple(surely_faster(club, race, ring, now, rows)), ())


def paper_of_home(club, race, entrants, now, rows, ring):
    """A right paper for an entrant that is home."""
    speeds = {other: told for _, other, told in rows}
    speed = speeds[ring]
    passing = passers(club, race, entrants, now, rows, speed)
    last = [(other, early_time(club, race, other, now, speed)) for other in passing]
    ahead = sorted([other for other in speeds if is_less(speed, speeds[other])])
    never = [other for other in entrants if other != ring and other not in passing + ahead]
    return ((), tuple(last), tuple(ahead), tuple(never))


def early_time(club, race, ring, now, speed):
    """A time from now to the close at which a bird is ahead of a speed, or as fast as it can be."""
    if speed_home(club, race, ring, (now, 1)) is not None:
        return (now, 1)
    square = square_distance(club, race, club[1][bird_of(club, ring)][1])
    # In a flight of 1 / parts the speed is square * parts * parts.
    parts = isqrt(speed[0] // (speed[1] * square)) + 1
    return plus((first_light(club[2][race]), 1), (1, parts))


def first_light(race):
    """The last minute at which the flight is 0, in a race in which an arrival can count."""
    start, dawn = race[3], race[6]
    if is_less(NOUGHT, flight(race, (start + 1, 1))):
        return start
    return start + (dawn - start) % DAY
