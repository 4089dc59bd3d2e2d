"""The lists of races [l1], and the places in any list."""

from homingtrue.clubs import bird_of
from homingtrue.flights import speed
from homingtrue.fractions import is_less
from homingtrue.slips import clock_of, counting


def race_list(club, clocks, slips, race):
    """The rows (place, ring, speed) of a race for right slips."""
    found = []
    for slip in counting(slips):
        if slip[0] == race:
            told = speed_of(club, clocks, slip)
            if told is not None:
                found.append((slip[1], told))
    return ranked(found)


def speed_of(club, clocks, slip):
    """The speed of the arrival of a right slip; None if it does not count."""
    race, ring, reading = slip
    clock = clock_of(clocks, race, club[1][bird_of(club, ring)][1])
    if reading is None or clock is None:
        return None
    return speed(club, clock, reading)


def ranked(pairs):
    """Rows (place, number, fraction) for pairs (number, fraction): the greatest fraction first.

    Those of one fraction share a place, and stand by their numbers.
    """
    rows = []
    for number, told in pairs:
        ahead = [other for _, other in pairs if is_less(told, other)]
        rows.append((len(ahead) + 1, number, told))
    return sorted(rows)


def place_in(rows, ring):
    """The place of a ring in a list; None if it is not there."""
    for place, other, _ in rows:
        if other == ring:
            return place
    return None
