"""Writing clubs in their normal texts [b4]."""


def write_club(club):
    """The normal text of a club."""
    lofts, birds, races = club
    lines = [loft_line(loft) for loft in lofts]
    lines += [bird_line(bird, lofts) for bird in birds]
    lines += [race_line(race) for race in races]
    return "".join(lines)


def loft_line(loft):
    """The line of a loft."""
    name, x, y = loft
    return f"loft {name} at {x} {y}\n"


def bird_line(bird, lofts):
    """The line of a bird of one of these lofts."""
    ring, number, year = bird
    name = lofts[number][0]
    return f"bird {ring} of {name} year {year}\n"


def race_line(race):
    """The line of a race."""
    name, x, y, start, close, dusk, dawn = race
    return f"race {name} from {x} {y} start {start} close {close} dark {dusk} to {dawn}\n"
