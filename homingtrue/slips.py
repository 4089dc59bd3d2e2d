"""Slips and clocks: which ones count, and which slips are right [s1, s2]."""

from homingtrue.clocks import is_from, true_time
from homingtrue.clubs import bird_of
from homingtrue.errors import BadSlip


def counting(rows):
    """The slips that count, sorted by race, then by ring."""
    last = {}
    for row in rows:
        last[(row[0], row[1])] = row
    return [last[key] for key in sorted(last)]


def counting_clocks(clocks):
    """The clocks that count, sorted by race, then by loft."""
    # As with slips, the first two parts tell which ones are of one kind.
    return counting(clocks)


def clock_of(clocks, race, loft):
    """The clock of a race and a loft that counts; None if there is none."""
    found = None
    for clock in clocks:
        if (clock[0], clock[1]) == (race, loft):
            found = clock
    return found


def check_slip(club, clocks, slip):
    """Raises BadSlip with the first part of a slip that is wrong."""
    race, ring, reading = slip
    if not is_from(race, 0, len(club[2]) - 1):
        raise BadSlip("race")
    if not is_ring(club, ring):
        raise BadSlip("ring")
    loft = club[1][bird_of(club, ring)][1]
    if reading is not None and not is_reading(clock_of(clocks, race, loft), reading):
        raise BadSlip("reading")


def is_ring(club, told):
    """Whether a value of any kind is the ring of a bird."""
    return type(told) is int and told in [bird[0] for bird in club[1]]


def is_reading(clock, told):
    """Whether a clock, or None, has a true time for a value of any kind."""
    return clock is not None and type(told) is int and true_time(clock, told) is not None
