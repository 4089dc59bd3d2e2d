"""The judge, who goes through a paper without reckoning the outlook [w1, w2]."""

from homingtrue.errors import WrongPaper
from homingtrue.fractions import is_less
from homingtrue.lists import place_in, race_list
from homingtrue.outlook import can_be_ahead, can_count, is_out_of_reach, list_with


def judge(club, clocks, slips, race, entrants, now, ring, told, paper):
    """Raises WrongPaper with the index of the first part of a paper that is wrong for a pair."""
    speeds = {other: speed for _, other, speed in race_list(club, clocks, slips, race)}
    places = []
    for row in paper[:2]:
        fits = is_row(club, race, entrants, now, speeds, row)
        places.append(place_in(list_with(club, clocks, slips, race, row), ring) if fits else None)
    if ring in speeds:
        holds = home_parts(club, race, entrants, now, ring, told, paper, speeds, places)
    else:
        holds = out_parts(club, race, now, ring, told, paper, speeds, places)
    for at, held in enumerate(holds):
        if not held:
            raise WrongPaper(at)


def is_row(club, race, entrants, now, speeds, row):
    """Whether a row is one of birds that are out, with times from now to the close."""
    close = (club[2][race][4], 1)
    for ring, time in row:
        if ring not in entrants or ring in speeds or is_less(time, (now, 1)) or is_less(close, time):
            return False
    return is_rising([ring for ring, _ in row])


def is_rising(rings):
    """Whether each ring is greater than the one ahead of it, so that none is counted twice."""
    return all([one < other for one, other in zip(rings, rings[1:])])


def home_parts(club, race, entrants, now, ring, told, paper, speeds, places):
    """Whether each of the parts of a paper is right, for an entrant that is home."""
    _, _, sure, never = paper
    least, greatest = told
    ahead = [other for other in speeds if is_less(speeds[ring], speeds[other])]
    return [
        places[0] is not None and places[0] == least,
        places[1] is not None and places[1] == greatest,
        is_rising(sure) and len(sure) + 1 == least and all([other in ahead for other in sure]),
        is_rising(never) and len(entrants) - len(never) == greatest
        and all([other in entrants and other != ring for other in never])
        and not any([can_pass(club, race, now, speeds, other, speeds[ring]) for other in never]),
    ]


def can_pass(club, race, now, speeds, ring, speed):
    """Whether an entrant can be ahead of a speed."""
    if ring in speeds:
        return is_less(speed, speeds[ring])
    return can_be_ahead(club, race, ring, now, speed)


def out_parts(club, race, now, ring, told, paper, speeds, places):
    """Whether each of the parts of a paper is right, for an entrant that is out."""
    first, last, sure, never = paper
    least, greatest = told
    if least is None:
        comes = first == () and not can_count(club, race)
        behind = sure == ()
    else:
        comes = places[0] == least
        behind = is_rising(sure) and len(sure) + 1 == least and all(
            [other in speeds and is_out_of_reach(club, race, ring, now, speeds[other]) for other in sure])
    return [comes, last == () and greatest is None, behind, never == ()]
