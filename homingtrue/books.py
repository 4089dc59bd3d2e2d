"""Books of one club, which several people keep and merge [m1, m2]."""

from homingtrue.clocks import check_clock, is_from
from homingtrue.errors import BadClock, BadEvent, BadSlip, OtherClub, TooMany
from homingtrue.slips import check_slip, is_ring
from homingtrue.tokens import tokens

KINDS = ("clock", "slip", "stake", "transfer")
SIZES = {"clock": 6, "slip": 4, "stake": 4, "transfer": 4}
MOST_SOURCES = 9
MOST_TELLINGS = 80
LAST_READING = 9999
MOST_UNITS = 1000


class Book:
    """The tellings of one club that somebody made or took in."""

    def __init__(self, source, club):
        if not is_from(source, 1, MOST_SOURCES):
            raise TooMany(MOST_SOURCES)
        self._source = source
        self._club = club
        self._held = []

    def source(self):
        """The number of the one who keeps the book."""
        return self._source

    def club(self):
        """The club."""
        return self._club

    def tellings(self):
        """The list of the tellings, by stamp, then by source."""
        return sorted(self._held, key=lambda telling: (telling[0], telling[1]))

    def held(self):
        """The list of the tellings, in the order in which the book came to hold them."""
        return list(self._held)

    def state(self):
        """The clocks, the slips that are right for them, the stakes and the transfers."""
        rows = self.tellings()
        clocks, slips, stakes, transfers = [parts_of(rows, kind) for kind in KINDS]
        right = [slip for slip in slips if is_right_slip(self._club, clocks, slip)]
        return (clocks, right, stakes, transfers)

    def tell(self, entry):
        """Makes a telling of an entry, and returns it."""
        if not is_right(self._club, entry):
            raise BadEvent(entry[0])
        if len(self._held) >= MOST_TELLINGS:
            raise TooMany(MOST_TELLINGS)
        stamp = 1 + max([telling[0] for telling in self._held], default=0)
        telling = (stamp, self._source, entry)
        self._held.append(telling)
        return telling

    def merge(self, other):
        """Takes the tellings of another book in, and returns how many are new."""
        if self._club != other.club():
            raise OtherClub()
        entries = {(stamp, source): entry for stamp, source, entry in self._held}
        fresh = []
        for stamp, source, entry in other.tellings():
            if (stamp, source) not in entries:
                fresh.append((stamp, source, entry))
            elif entries[(stamp, source)] != entry:
                raise OtherClub()
        if len(self._held) + len(fresh) > MOST_TELLINGS:
            raise TooMany(MOST_TELLINGS)
        self._held.extend(fresh)
        return len(fresh)

    def take(self, telling):
        """Takes a telling in that stood in a log, if it can be held; tells whether it did."""
        stamp, source, entry = telling
        told = [(held[0], held[1]) for held in self._held]
        if len(told) >= MOST_TELLINGS or (stamp, source) in told:
            return False
        if stamp < 1 or not is_from(source, 1, MOST_SOURCES) or not is_right(self._club, entry):
            return False
        self._held.append(telling)
        return True


def parts_of(rows, kind):
    """What stands behind the kind in the entries of one kind, in their order."""
    return [entry[1:] for _, _, entry in rows if entry[0] == kind]


def is_right_slip(club, clocks, slip):
    """Whether a slip is right for a club and clocks."""
    try:
        check_slip(club, clocks, slip)
    except BadSlip:
        return False
    return True


def is_right(club, entry):
    """Whether an entry can be told of a club."""
    kind = entry[0]
    if kind not in KINDS or len(entry) != SIZES[kind]:
        return False
    if kind == "clock":
        return is_right_clock(club, entry[1:])
    if kind == "transfer":
        _, ring, race, owner = entry
        return is_ring(club, ring) and is_race(club, race) and is_owner(owner)
    _, race, ring, number = entry
    if not is_race(club, race) or not is_ring(club, ring):
        return False
    if kind == "stake":
        return is_from(number, 0, MOST_UNITS)
    return number is None or is_from(number, 0, LAST_READING)


def is_right_clock(club, clock):
    """Whether a clock is right for a club."""
    try:
        check_clock(club, clock)
    except BadClock:
        return False
    return True


def is_race(club, told):
    """Whether a value of any kind is the number of a race."""
    return is_from(told, 0, len(club[2]) - 1)


def is_owner(told):
    """Whether a value of any kind is a word that an owner can have."""
    return isinstance(told, str) and tokens(told) == [("word", told)]
