"""Readings that would do for a place [r1]."""

from homingtrue.clocks import true_time
from homingtrue.clubs import bird_of
from homingtrue.fractions import is_less
from homingtrue.lists import place_in, race_list
from homingtrue.slips import clock_of


def place_with(club, clocks, slips, race, ring, reading):
    """The place that a bird would have with a reading; None if the arrival does not count."""
    return place_in(race_list(club, clocks, slips + [(race, ring, reading)], race), ring)


def reading_for(club, clocks, slips, race, ring, place):
    """The greatest reading with which a bird would have at most a place; None if there is none."""
    clock = clock_of(clocks, race, club[1][bird_of(club, ring)][1])
    if clock is None:
        return None
    _, _, begin, _, shown = clock
    # The readings from some one on are too late; the one ahead of it is sought by halves.
    early, late = begin - 1, shown + 1
    while late - early > 1:
        middle = (early + late) // 2
        if is_late(club, clocks, slips, race, ring, place, true_time(clock, middle), middle):
            late = middle
        else:
            early = middle
    if early < begin or place_with(club, clocks, slips, race, ring, early) is None:
        return None
    return early


def is_late(club, clocks, slips, race, ring, place, time, reading):
    """Whether a reading, with its true time, is behind the close or gives a greater place."""
    if is_less((club[2][race][4], 1), time):
        return True
    found = place_with(club, clocks, slips, race, ring, reading)
    return found is not None and found > place
