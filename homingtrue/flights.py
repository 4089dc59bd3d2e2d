"""The dark, the flights and the speeds of birds [d3, d4]."""

from homingtrue.clocks import true_time
from homingtrue.distances import square_distance
from homingtrue.fractions import is_less, lowest, minus, over, times

DAY = 1440
NOUGHT = (0, 1)


def dark_part(race, first, last):
    """How much of the time from one time to another it is dark in a race."""
    return minus(dark_until(race, last), dark_until(race, first))


def dark_until(race, time):
    """How much of the time from the minute 0 to a time it is dark in a race."""
    dusk, dawn = race[5], race[6]
    p, q = time
    days = p // (DAY * q)
    # All is told in q-ths of a minute, so that only integers are left.
    whole = days * ((dawn - dusk) % DAY) * q
    return lowest(whole + dark_of_day(dusk * q, dawn * q, p - days * DAY * q), q)


def dark_of_day(dusk, dawn, end):
    """How much of a day it is dark up to its end or ahead of it."""
    if dusk <= dawn:
        return max(0, min(end, dawn) - dusk)
    return min(end, dawn) + max(0, end - dusk)


def flight(race, time):
    """The flight of a bird that arrives at a true time, not less than the start."""
    start = (race[3], 1)
    return minus(minus(time, start), dark_part(race, start, time))


def speed(club, clock, reading):
    """The speed of the arrival with a reading; None if it does not count."""
    time = true_time(clock, reading)
    if time is None:
        return None
    return speed_at(club, clock[0], clock[1], time)


def speed_at(club, race, loft, time):
    """The speed of an arrival at a loft at a true time; None if it does not count."""
    told = club[2][race]
    # Ahead of the start there is no flight.
    if is_less(time, (told[3], 1)) or is_less((told[4], 1), time):
        return None
    flown = flight(told, time)
    if not is_less(NOUGHT, flown):
        return None
    return over((square_distance(club, race, loft), 1), times(flown, flown))
