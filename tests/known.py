"""What the document says, reckoned once more in another way: the tests hold the program against it."""

import fractions
import itertools


def pair(value):
    """A fraction of the program for a number."""
    value = fractions.Fraction(value)
    return (value.numerator, value.denominator)


def number(told):
    """A number for a fraction of the program."""
    return fractions.Fraction(told[0], told[1])


def known_dark(dusk, dawn, first, last):
    """The dark between two times, stretch by stretch [d3]."""
    total = fractions.Fraction(0)
    minutes = dawn - dusk if dawn >= dusk else dawn + 1440 - dusk
    for day in range(-1, int(last) // 1440 + 1):
        low = day * 1440 + dusk
        total += max(fractions.Fraction(0), min(last, low + minutes) - max(first, low))
    return total


def known_flight(race, time):
    """The flight up to a true time, a number [d3]."""
    _, _, _, start, _, dusk, dawn = race
    return time - start - known_dark(dusk, dawn, start, time)


def loft_of(club, ring):
    return [loft for other, loft, _ in club[1] if other == ring][0]


def known_speed(club, race, ring, time):
    """The speed of a bird that arrives at a true time, a number, or None [d4]."""
    _, x, y, start, close, _, _ = club[2][race]
    if not start < time <= close:
        return None
    flown = known_flight(club[2][race], time)
    if flown <= 0:
        return None
    _, across, along = club[0][loft_of(club, ring)]
    return ((x - across) ** 2 + (y - along) ** 2) / flown ** 2


def known_time(clocks, race, loft, reading):
    """The true time of a reading, a number, or None [s2], [d2]."""
    told = [clock for clock in clocks if clock[:2] == (race, loft)]
    if not told or reading is None:
        return None
    _, _, begin, end, shown = told[-1]
    if not begin <= reading <= shown:
        return None
    return begin + fractions.Fraction((reading - begin) * (end - begin), shown - begin)


def known_speeds(club, clocks, slips, race):
    """The dict from the rings of a list to their speeds, numbers [s1], [l1]."""
    speeds = {}
    for ring, loft, _ in club[1]:
        readings = [slip[2] for slip in slips if slip[:2] == (race, ring)]
        time = known_time(clocks, race, loft, readings[-1]) if readings else None
        speed = known_speed(club, race, ring, time) if time is not None else None
        if speed is not None:
            speeds[ring] = speed
    return speeds


def known_rows(speeds):
    """The list for a dict from rings to speeds [l1]."""
    rows = [(1 + len([1 for other in speeds.values() if other > speed]), ring, pair(speed))
            for ring, speed in speeds.items()]
    return sorted(rows, key=lambda row: (-number(row[2]), row[1]))


def known_list(club, clocks, slips, race):
    return known_rows(known_speeds(club, clocks, slips, race))


def known_times(club, race, now):
    """Times from now to the close, among which a bird is as fast as it can be, or faster than any that is home."""
    _, _, _, start, close, _, _ = club[2][race]
    times = {fractions.Fraction(now), fractions.Fraction(close), fractions.Fraction(now + close, 2)}
    for minute in range(now, close):
        if known_flight(club[2][race], minute) <= 0:
            times.add(minute + fractions.Fraction(1, 10 ** 12))
    return sorted(times)


def known_outlook(club, clocks, slips, race, entrants, now):
    """The outlook by the words of [k3]: the places in the lists with very many arrival rows."""
    home = known_speeds(club, clocks, slips, race)
    out = [ring for ring in entrants if ring not in home]
    chances = []
    for ring in out:
        speeds = {known_speed(club, race, ring, time) for time in known_times(club, race, now)}
        chances.append([None] + sorted(speeds - {None}))
    places = {ring: set() for ring in entrants}
    for told in itertools.product(*chances):
        speeds = dict(home)
        speeds.update({ring: speed for ring, speed in zip(out, told) if speed is not None})
        for ring in speeds:
            places[ring].add(1 + len([1 for other in speeds.values() if other > speeds[ring]]))
    return [(ring, min(places[ring], default=None), max(places[ring]) if ring in home else None)
            for ring in sorted(entrants)]


LOFTS = (("hill", 3, 4), ("mill", -4, 3), ("dell", 6, 8), ("moor", 1, 2))
BIRDS = ((7, 0, 24), (3, 1, 1), (12, 2, 25), (5, 0, 2), (20, 2, 3), (9, 3, 4), (31, 1, 4))
DARKS = ((0, 0), (0, 0), (200, 312), (200, 325), (300, 310), (200, 400), (315, 320), (1260, 300), (310, 309))


def situation(chance):
    """A race with some birds home and some, at most four, out: (club, clocks, slips, race, entrants, now)."""
    dusk, dawn = chance.choice(DARKS)
    start = chance.randint(300, 315)
    close = start + chance.randint(1, 30)
    told = ("north", 0, 0, start, close, dusk, dawn)
    birds = tuple(chance.sample(BIRDS, chance.randint(1, 7)))
    club = (LOFTS, birds, (told,))
    clocks = [(0, loft, 290, 390, chance.choice([390, 390, 390, 340, 440]))
              for loft in range(4) if chance.randrange(8)]
    slips = []
    for ring, loft, _ in birds:
        clock = [clock for clock in clocks if clock[1] == loft]
        if clock and chance.randrange(5) > 1:
            slips.append((0, ring, chance.randint(start, min(clock[0][4], close + 2))))
    home = known_speeds(club, clocks, slips, 0)
    out = [ring for ring, _, _ in birds if ring not in home][:chance.randint(0, 4)]
    entrants = tuple(sorted(list(home) + out))
    return (club, clocks, slips, 0, entrants, chance.choice([start, close, chance.randint(start, close)]))


def known_place(speeds, club, race, row, ring):
    """The place of a ring in the list with a row, None if it is not there [k2]."""
    speeds = dict(speeds)
    for other, time in row:
        speed = known_speed(club, race, other, number(time))
        if speed is not None:
            speeds[other] = speed
    if ring not in speeds:
        return None
    return 1 + len([1 for speed in speeds.values() if speed > speeds[ring]])


def known_wrong(club, clocks, slips, race, entrants, now, ring, told, paper):
    """The index of the first wrong part of a paper, None if it is right, by the words of [w1]."""
    speeds = known_speeds(club, clocks, slips, race)
    first, last, sure, never = paper
    least, greatest = told

    def chances(other):
        if other in speeds:
            return [speeds[other]]
        return [speed for time in known_times(club, race, now)
                if (speed := known_speed(club, race, other, time)) is not None]

    rising = [list(rings) == sorted(set(rings)) for rings in (sure, never)]
    if ring in speeds:
        others = [other for other in entrants if other != ring]
        parts = [
            known_place(speeds, club, race, first, ring) == least,
            known_place(speeds, club, race, last, ring) == greatest,
            rising[0] and all(other in speeds and speeds[other] > speeds[ring] for other in sure)
            and least == len(sure) + 1,
            rising[1] and all(other in others and max(chances(other), default=0) <= speeds[ring] for other in never)
            and greatest == len(others) - len(never) + 1]
    elif least is None:
        parts = [first == () and not chances(ring), last == () and greatest is None, sure == (), never == ()]
    else:
        parts = [
            known_place(speeds, club, race, first, ring) == least,
            last == () and greatest is None,
            rising[0] and all(other in speeds and speeds[other] > max(chances(ring), default=0) for other in sure)
            and least == len(sure) + 1,
            never == ()]
    return parts.index(False) if False in parts else None
