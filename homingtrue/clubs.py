"""Reading the texts of clubs [b1, b3], and finding what stands in a club."""

from homingtrue.errors import ClubFault, NoSuchName, NoSuchRing
from homingtrue.tokens import tokens

LOFT = 0
BIRD = 1
RACE = 2
# Capital letters stand for any name or number: no word of a text has them.
FORMS = (
    ("loft", "NAME", "at", "COORDINATE", "COORDINATE"),
    ("bird", "RING", "of", "NAME", "year", "YEAR"),
    ("race", "NAME", "from", "COORDINATE", "COORDINATE", "start", "START",
     "close", "CLOSE", "dark", "DAYTIME", "to", "DAYTIME"),
)
RANGES = {
    "COORDINATE": (-9999, 9999),
    "RING": (1, 999),
    "YEAR": (0, 99),
    "START": (0, 9999),
    "CLOSE": (0, 9999),
    "DAYTIME": (0, 1439),
}
MOST = (6, 12, 4)


def read_club(text):
    """The club of a text; raises ClubFault with the first fault."""
    parts = ([], [], [])
    kind = LOFT
    for line, written in enumerate(text.split("\n")):
        row = tokens(written)
        if row:
            kind = kind_of(row, kind, line)
            check_form(row, kind, line)
            told = [int(string) if label == "number" else string for label, string in row]
            check_numbers(told, kind, line)
            check_names(told, kind, line, parts)
            if len(parts[kind]) == MOST[kind]:
                raise ClubFault(line, 0, "many")
            parts[kind].append(part_of(told, kind, parts))
    lofts, birds, races = parts
    return (tuple(lofts), tuple(birds), tuple(races))


def kind_of(row, eldest, line):
    """The kind of a line, by its first token; none ahead of the eldest one can stand."""
    for kind in range(eldest, len(FORMS)):
        if row[0] == ("word", FORMS[kind][0]):
            return kind
    raise ClubFault(line, 0, "unexpected")


def check_form(row, kind, line):
    """Raises ClubFault if the tokens of a line are not those of a line of its kind."""
    form = FORMS[kind]
    for place, token in enumerate(row):
        if place == len(form) or not is_fit(token, form[place]):
            raise ClubFault(line, place, "unexpected")
    if len(row) < len(form):
        raise ClubFault(line, len(row), "end")


def is_fit(token, piece):
    """Whether a token can stand for a piece of a form."""
    if piece in RANGES:
        return token[0] == "number"
    if piece == "NAME":
        return token[0] == "word"
    return token == ("word", piece)


def check_numbers(told, kind, line):
    """Raises ClubFault for the first number of a line that is out of its range."""
    for place, piece in enumerate(FORMS[kind]):
        if piece in RANGES:
            low, high = RANGES[piece]
            # The start of a race stands two tokens ahead of its close.
            if piece == "CLOSE":
                low = told[place - 2] + 1
            if not low <= told[place] <= high:
                raise ClubFault(line, place, "number")


def check_names(told, kind, line, parts):
    """Raises ClubFault for a name, a ring or a place of a line that cannot be."""
    lofts, birds, races = parts
    if kind == BIRD:
        if number_of(lofts, told[3]) is None:
            raise ClubFault(line, 3, "name")
        if number_of(birds, told[1]) is not None:
            raise ClubFault(line, 1, "ring")
    elif is_fixed(told[1]) or number_of(lofts + races, told[1]) is not None:
        raise ClubFault(line, 1, "name")
    if kind == RACE and (told[3], told[4]) in [(x, y) for _, x, y in lofts]:
        raise ClubFault(line, 3, "place")


def is_fixed(word):
    """Whether a word stands in the lines of every club, so that it is no name."""
    return any([word in form for form in FORMS])


def part_of(told, kind, parts):
    """The loft, the bird or the race of a line."""
    if kind == LOFT:
        return (told[1], told[3], told[4])
    if kind == BIRD:
        return (told[1], number_of(parts[LOFT], told[3]), told[5])
    return (told[1], told[3], told[4], told[6], told[8], told[10], told[12])


def number_of(rows, first):
    """The number of the row that begins with this; None if there is none."""
    for number, row in enumerate(rows):
        if row[0] == first:
            return number
    return None


def loft_named(club, name):
    """The number of the loft with a name; raises NoSuchName."""
    number = number_of(club[LOFT], name)
    if number is None:
        raise NoSuchName(name)
    return number


def race_named(club, name):
    """The number of the race with a name; raises NoSuchName."""
    number = number_of(club[RACE], name)
    if number is None:
        raise NoSuchName(name)
    return number


def bird_of(club, ring):
    """The number of the bird with a ring; raises NoSuchRing."""
    number = number_of(club[BIRD], ring)
    if number is None:
        raise NoSuchRing(ring)
    return number
