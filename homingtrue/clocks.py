"""Clocks: what is right for one [c2, c3], and the true time of a reading [d2]."""

from homingtrue.errors import BadClock
from homingtrue.fractions import lowest, plus

LAST_MINUTE = 9999


def check_clock(club, clock):
    """Raises BadClock with the first part of a clock that is wrong."""
    lofts, _, races = club
    race, loft, begin, end, shown = clock
    if not is_from(race, 0, len(races) - 1):
        raise BadClock("race")
    if not is_from(loft, 0, len(lofts) - 1):
        raise BadClock("loft")
    if not is_from(begin, 0, LAST_MINUTE):
        raise BadClock("begin")
    if not is_from(end, begin + 1, LAST_MINUTE):
        raise BadClock("end")
    if not is_from(shown, begin + 1, LAST_MINUTE):
        raise BadClock("shown")


def is_from(told, low, high):
    """Whether a value of any kind is an integer from low to high."""
    # True and False would pass isinstance(told, int).
    return type(told) is int and low <= told <= high


def true_time(clock, reading):
    """The true time at which a clock shows a reading; None if there is none."""
    _, _, begin, end, shown = clock
    if not begin <= reading <= shown:
        return None
    return plus((begin, 1), lowest((reading - begin) * (end - begin), shown - begin))
