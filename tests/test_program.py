"""[0], [c5] and the basics: what the program promises as a whole."""

import copy
import itertools
import random
import unittest

from homingtrue.books import Book
from homingtrue.clocks import check_clock, true_time
from homingtrue.clubs import bird_of, loft_named, race_named, read_club
from homingtrue.errors import RaceError, WrongPaper
from homingtrue.judge import judge
from homingtrue.ledger import accounts, owner_in
from homingtrue.lists import place_in, race_list
from homingtrue.logs import log_of, opened
from homingtrue.outlook import can_be_ahead, list_with, outlook, settled
from homingtrue.papers import paper_of
from homingtrue.pools import counting_stakes, payments, pool
from homingtrue.readings import place_with, reading_for
from homingtrue.season import loft_list, race_points, season_list
from homingtrue.slips import check_slip, counting, counting_clocks
from homingtrue.writing import write_club
from tests.known import known_list, known_outlook

TEXT = """
loft hill at 0 0
loft mill at 600 800
loft dell at 300 399

bird 7 of hill year 24
bird 3 of hill year 25
bird 12 of mill year 24
bird 5 of mill year 23
bird 9 of dell year 22

race north from 300 400 start 360 close 900 dark 1260 to 300
race south from 300 400 start 360 close 900 dark 300 to 380
"""
CLUB = read_club(TEXT)
RINGS = (3, 5, 7, 9, 12)
SCHEME, PARTS = (10, 6, 3), (3, 1)
# Clocks and slips come late, in any order, are corrected and taken back.
TOLD = {
    1: [("slip", 0, 7, 400), ("stake", 0, 7, 10), ("stake", 0, 3, 10), ("slip", 0, 3, 420), ("transfer", 7, 1, "ann"),
        ("slip", 0, 3, None), ("slip", 0, 3, 400), ("slip", 1, 7, 400)],
    2: [("clock", 0, 0, 300, 900, 912), ("clock", 0, 1, 300, 900, 900), ("slip", 0, 12, 399), ("stake", 0, 12, 7),
        ("clock", 0, 0, 300, 900, 900), ("slip", 0, 12, 450)],
    3: [("clock", 1, 0, 300, 900, 900), ("stake", 1, 7, 4), ("stake", 1, 9, 5), ("slip", 0, 9, 950),
        ("slip", 0, 9, 361), ("stake", 0, 3, 11), ("clock", 0, 2, 300, 900, 900), ("stake", 1, 9, 6)],
}


def book_of(source):
    book = Book(source, CLUB)
    for entry in TOLD[source]:
        book.tell(entry)
    return book


def all_of(club, state):
    """All that the program tells of a state."""
    clocks, slips, stakes, transfers = state
    races = range(len(club[2]))
    told = [[race_list(club, clocks, slips, race) for race in races]]
    told += [season_list(club, clocks, slips, SCHEME, best) for best in (1, 2)]
    told += [loft_list(club, clocks, slips, SCHEME, best) for best in (1, 2)]
    told += [counting(slips), counting_clocks(clocks), counting_stakes(stakes)]
    told += [payments(stakes, PARTS, race, told[0][race]) for race in races]
    told += [accounts(club, clocks, slips, stakes, PARTS, transfers)]
    for race, now in itertools.product(races, (360, 370, 400, 401, 900)):
        told.append(outlook(club, clocks, slips, race, RINGS, now))
        told.append([paper_of(club, clocks, slips, race, RINGS, now, ring) for ring in RINGS])
    told += [reading_for(club, clocks, slips, race, ring, 2) for race in races for ring in RINGS]
    return told


class AWholeSeason(unittest.TestCase):
    def test_merged_books(self):
        books = [book_of(source) for source in (1, 2, 3)]
        for book, other in itertools.permutations(books, 2):
            book.merge(other)
        clocks, slips, stakes, transfers = books[0].state()
        rows = race_list(CLUB, clocks, slips, 0)
        self.assertEqual(rows, [(1, 3, (625, 4)), (1, 7, (625, 4)), (3, 12, (2500, 81)), (4, 9, (1, 1))])
        self.assertEqual(race_list(CLUB, clocks, slips, 1), [(1, 7, (625, 1))])
        # The birds of one speed share the place, the points and the parts.
        self.assertEqual(race_points(rows, SCHEME), {3: (8, 1), 7: (8, 1), 12: (3, 1), 9: (0, 1)})
        self.assertEqual(season_list(CLUB, clocks, slips, SCHEME, 2),
                         [(1, 7, (18, 1)), (2, 3, (8, 1)), (3, 12, (3, 1)), (4, 9, (0, 1))])
        self.assertEqual(loft_list(CLUB, clocks, slips, SCHEME, 2), [(1, 0, (26, 1)), (2, 1, (3, 1)), (3, 2, (0, 1))])
        self.assertEqual((pool(stakes, 0), pool(stakes, 1)), (28, 10))
        self.assertEqual(payments(stakes, PARTS, 0, rows), [(3, 14), (7, 14), (12, 0)])
        self.assertEqual(accounts(CLUB, clocks, slips, stakes, PARTS, transfers),
                         [("ann", 6), ("dell", -6), ("hill", 7), ("mill", -7)])

    def test_books_that_are_merged_in_any_order_tell_the_same(self):
        told = None
        for order in itertools.permutations((1, 2, 3)):
            books = {source: book_of(source) for source in order}
            for first, second in [(0, 1), (2, 0), (1, 2), (2, 1), (0, 2), (1, 0), (0, 2)]:
                books[order[first]].merge(books[order[second]])
            found = [(book.tellings(), all_of(CLUB, book.state())) for book in books.values()]
            told = told or found[0]
            self.assertEqual(found, [told] * 3)

    def test_a_slip_told_ahead_of_its_clock_becomes_right(self):
        book = book_of(1)
        self.assertEqual(book.state()[1], [(0, 3, None)])
        self.assertEqual(race_list(CLUB, *book.state()[:2], 0), [])
        book.merge(book_of(2))
        self.assertEqual(place_in(race_list(CLUB, *book.state()[:2], 0), 7), 1)

    def test_a_log_that_is_cut_gives_the_book_of_its_whole_records(self):
        book = book_of(3)
        book.merge(book_of(2))
        book.merge(book_of(1))
        data = log_of(book)
        first = len(log_of(Book(1, CLUB)))
        for end in range(first, len(data) + 1):
            found, at = opened(data[:end], 9)
            held = found.held()
            self.assertEqual(held, book.held()[:len(held)])
            self.assertEqual(data[:at], log_of(found))
            # What was lost comes back from another book.
            if end % 50 == 0 or end == len(data):
                found.merge(book)
                self.assertEqual((found.tellings(), found.state()), (book.tellings(), book.state()))


class AnyOrder(unittest.TestCase):
    def test_tellings_of_different_races_and_birds_in_any_order(self):
        chance = random.Random(91)
        clocks = [(race, loft, 300, 900, 900 + race + loft) for race in range(2) for loft in range(3)]
        slips = [(race, ring, 361 + 40 * race + ring % 4) for race in range(2) for ring in RINGS]
        stakes = [(race, ring, ring + race) for race in range(2) for ring in RINGS]
        transfers = [(7, 1, "ann"), (7, 0, "bob"), (12, 1, "ann")]
        told = all_of(CLUB, (clocks, slips, stakes, transfers))
        for _ in range(20):
            state = [chance.sample(rows, len(rows)) for rows in (clocks, slips, stakes, transfers)]
            self.assertEqual(all_of(CLUB, state), told)

    def test_what_was_told_and_does_not_count_does_not_matter(self):
        chance = random.Random(92)
        for _ in range(10):
            state = []
            for rows in ([(race, loft, 300, 900, 900) for race in range(2) for loft in range(3)],
                         [(race, ring, chance.randint(361, 500)) for race in range(2) for ring in RINGS]):
                state.append((rows, [chance.choice(rows)[:2] + chance.choice(rows)[2:] for _ in range(6)] + rows))
            (clocks, more_clocks), (slips, more_slips) = state
            self.assertEqual(all_of(CLUB, (more_clocks, more_slips, [], [])), all_of(CLUB, (clocks, slips, [], [])))


class Together(unittest.TestCase):
    """Many clubs: the lists by the words, pools, accounts, outlooks, papers and the judge."""

    def situation(self, chance):
        rings = chance.sample(range(1, 1000), chance.randint(1, 6))
        lofts = tuple((name, chance.randint(-9, 9), chance.randint(-9, 9)) for name in ("a", "b", "c"))
        birds = tuple((ring, chance.randrange(3), 0) for ring in rings)
        races = tuple((name, 20, chance.randint(-9, 9), chance.randint(0, 20), chance.randint(40, 60),
                       chance.choice([0, 5, 10, 30, 100]), chance.choice([0, 5, 25, 1400])) for name in ("n", "o"))
        club = (lofts, birds, races)
        book = Book(1, club)
        for _ in range(chance.randint(3, 40)):
            race, ring = chance.randrange(2), chance.choice(rings)
            book.tell(chance.choice([
                ("clock", race, chance.randrange(3), 0, 70, chance.choice([69, 70, 71])),
                ("slip", race, ring, chance.choice([None] + list(range(15, 65)))),
                ("slip", race, ring, chance.randint(20, 30)),
                ("stake", race, ring, chance.choice([0, 1, 10, 99])),
                ("transfer", ring, race, chance.choice(["x", "y", "a"]))]))
        return book

    def check_race(self, club, state, race, now):
        clocks, slips, stakes, _ = state
        rows = race_list(club, clocks, slips, race)
        self.assertEqual(rows, known_list(club, clocks, slips, race))
        self.assertEqual(sum(units for _, units in payments(stakes, PARTS, race, rows)), pool(stakes, race))
        entrants = tuple(sorted(ring for ring, _, _ in club[1]))
        told = outlook(club, clocks, slips, race, entrants, now)
        if len(entrants) - len(rows) <= 4:
            self.assertEqual(told, known_outlook(club, clocks, slips, race, entrants, now))
        for ring, least, greatest in told:
            paper = paper_of(club, clocks, slips, race, entrants, now, ring)
            self.assertIs(judge(club, clocks, slips, race, entrants, now, ring, (least, greatest), paper), None)
            for other in ((least, 7), (7, greatest), (None, None)):
                if other != (least, greatest):
                    with self.assertRaises(WrongPaper):
                        judge(club, clocks, slips, race, entrants, now, ring, other, paper)

    def test_many_clubs(self):
        chance = random.Random(93)
        for _ in range(60):
            book = self.situation(chance)
            club, state = book.club(), book.state()
            self.assertEqual(read_club(write_club(club)), club)
            clocks, slips, stakes, transfers = state
            self.assertEqual(sum(total for _, total in accounts(club, clocks, slips, stakes, PARTS, transfers)), 0)
            for race in range(2):
                self.check_race(club, state, race, chance.randint(club[2][race][3], club[2][race][4]))
            found, at = opened(log_of(book), 1)
            self.assertEqual((found.held(), found.state(), at), (book.held(), state, len(log_of(book))))


class Basics(unittest.TestCase):
    def test_no_function_modifies_its_arguments_and_each_answer_is_new(self):
        book = book_of(1)
        book.merge(book_of(2))
        book.merge(book_of(3))
        clocks, slips, stakes, transfers = book.state()
        rows = race_list(CLUB, clocks, slips, 0)
        held = {"clocks": clocks, "slips": slips, "stakes": stakes, "transfers": transfers, "rows": rows, "club": CLUB}
        kept = copy.deepcopy(held)
        race = (CLUB, clocks, slips, 0, RINGS, 400)
        for made in (
                lambda: counting(slips), lambda: counting_clocks(clocks), lambda: race_list(CLUB, clocks, slips, 0),
                lambda: race_points(rows, SCHEME), lambda: season_list(CLUB, clocks, slips, SCHEME, 1),
                lambda: loft_list(CLUB, clocks, slips, SCHEME, 1), lambda: counting_stakes(stakes),
                lambda: payments(stakes, PARTS, 0, rows),
                lambda: accounts(CLUB, clocks, slips, stakes, PARTS, transfers),
                lambda: list_with(CLUB, clocks, slips, 0, ((5, (400, 1)),)), lambda: outlook(*race),
                lambda: settled(*race), lambda: log_of(book), book.tellings, book.held):
            first, again = made(), made()
            self.assertEqual(first, again)
            self.assertIsNot(first, again)
            first.clear()
            self.assertEqual(made(), again)
        for call in (lambda: judge(*race, 7, (1, 1), paper_of(*race, 7)),
                     lambda: place_with(CLUB, clocks, slips, 0, 5, 400),
                     lambda: reading_for(CLUB, clocks, slips, 0, 5, 1), lambda: owner_in(CLUB, transfers, 7, 1),
                     lambda: can_be_ahead(CLUB, 0, 5, 400, (1, 1)), lambda: check_slip(CLUB, clocks, slips[0]),
                     lambda: check_clock(CLUB, clocks[0]), lambda: true_time(clocks[0], 400), lambda: pool(stakes, 0)):
            call()
        self.assertEqual(held, kept)

    def test_a_call_that_raises_changes_nothing(self):
        book, other = book_of(1), Book(1, CLUB)
        other.tell(("stake", 0, 7, 3))
        before = (book.held(), book.state(), other.held())
        for call in (lambda: book.merge(other), lambda: other.merge(book), lambda: book.merge(Book(2, ((), (), ()))),
                     lambda: book.tell(("slip", 0, 8, 1)), lambda: book.tell(("transfer", 7, 0, "Ann"))):
            self.assertRaises(RaceError, call)
            self.assertEqual((book.held(), book.state(), other.held()), before)

    def test_names_and_rings_of_a_club(self):
        self.assertEqual([loft_named(CLUB, name) for name in ("hill", "mill", "dell")], [0, 1, 2])
        self.assertEqual([race_named(CLUB, name) for name in ("north", "south")], [0, 1])
        self.assertEqual([bird_of(CLUB, ring) for ring in (7, 3, 12, 5, 9)], [0, 1, 2, 3, 4])


if __name__ == "__main__":
    unittest.main()
