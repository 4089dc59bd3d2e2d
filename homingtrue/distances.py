"""Distances from the place of a race to a loft [d1]."""


def square_distance(club, race, loft):
    """The square of the distance of a race and a loft, told by their numbers."""
    lofts, _, races = club
    across = races[race][1] - lofts[loft][1]
    along = races[race][2] - lofts[loft][2]
    return across * across + along * along
