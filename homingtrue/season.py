"""The points of birds and lofts in a season [t1, t2, t3]."""

from homingtrue.fractions import lowest, plus
from homingtrue.lists import race_list, ranked

NOUGHT = (0, 1)


def race_points(rows, scheme):
    """The dict from the rings of a list to their points."""
    points = {}
    for place, ring, _ in rows:
        sharing = len([row for row in rows if row[0] == place])
        points[ring] = lowest(sum(scheme[place - 1:place - 1 + sharing]), sharing)
    return points


def season_points(club, clocks, slips, scheme, best):
    """The dict from the rings of the birds in some list to their season points."""
    won = {}
    for race in range(len(club[2])):
        rows = race_list(club, clocks, slips, race)
        for ring, points in race_points(rows, scheme).items():
            won.setdefault(ring, []).append(points)
    return {ring: best_sum(won[ring], best) for ring in won}


def best_sum(points, best):
    """The sum of the greatest ones of some points, of `best` at most."""
    rows = ranked(list(enumerate(points)))
    return sum_of([told for _, _, told in rows[:best]])


def sum_of(points):
    """The sum of some points."""
    total = NOUGHT
    for told in points:
        total = plus(total, told)
    return total


def season_list(club, clocks, slips, scheme, best):
    """The rows (place, ring, points) of the birds that are in some list."""
    points = season_points(club, clocks, slips, scheme, best)
    return ranked([(ring, points[ring]) for ring in points])


def loft_list(club, clocks, slips, scheme, best):
    """The rows (place, loft, points) of all lofts."""
    points = season_points(club, clocks, slips, scheme, best)
    totals = []
    for loft in range(len(club[0])):
        rings = [ring for ring, home, _ in club[1] if home == loft]
        totals.append((loft, sum_of([points[ring] for ring in rings if ring in points])))
    return ranked(totals)
