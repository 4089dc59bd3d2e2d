"""[m1], [m2], [c5]: books, their tellings and states, and merging them."""

import itertools
import random
import unittest

import homingtrue.books
from homingtrue.books import Book
from homingtrue.errors import BadEvent, BadSlip, OtherClub, RaceError, TooMany
from homingtrue.ledger import accounts
from homingtrue.lists import race_list
from homingtrue.season import loft_list, season_list
from homingtrue.slips import check_slip

CLUB = ((("hill", 0, 0), ("mill", 600, 800)),
        ((7, 0, 24), (3, 0, 1), (12, 1, 25)),
        (("north", 300, 400, 360, 900, 0, 0), ("south", 300, 400, 360, 900, 300, 380)))
CLOCK = ("clock", 0, 0, 300, 900, 900)
SLIP = ("slip", 0, 7, 400)
STAKE = ("stake", 0, 7, 10)
TRANSFER = ("transfer", 7, 1, "ann")
OTHER_KINDS = [True, False, "0", "7", 7.0, 0.0, b"7", (7,), [7], {}, object(), int]


def book_of(source, *entries, club=CLUB):
    book = Book(source, club)
    for entry in entries:
        book.tell(entry)
    return book


def full_book(source, many=80):
    return book_of(source, *[("stake", 0, 7, n) for n in range(many)])


def all_of(book):
    return (book.source(), book.club(), book.tellings(), book.held(), book.state())


class NewBooks(unittest.TestCase):
    def test_a_book_without_tellings(self):
        book = Book(4, CLUB)
        self.assertEqual(all_of(book), (4, CLUB, [], [], ([], [], [], [])))

    def test_sources(self):
        for source in range(1, 10):
            self.assertEqual(Book(source, CLUB).source(), source)
        for source in (0, 10, -1, 11, 100, -9):
            with self.subTest(source=source):
                with self.assertRaises(TooMany) as caught:
                    Book(source, CLUB)
                self.assertEqual(caught.exception.limit, 9)

    def test_arguments_have_the_told_names(self):
        book = Book(source=1, club=CLUB)
        self.assertEqual(book.tell(entry=SLIP), (1, 1, SLIP))
        self.assertEqual(book.merge(other=book_of(2, CLOCK)), 1)

    def test_a_club_of_nothing(self):
        book = Book(1, ((), (), ()))
        for entry in (CLOCK, SLIP, STAKE, TRANSFER):
            self.assertRaises(BadEvent, book.tell, entry)
        self.assertEqual(book.state(), ([], [], [], []))


class Telling(unittest.TestCase):
    def check_wrong(self, entries):
        book = book_of(3, CLOCK, SLIP, STAKE, TRANSFER)
        before = all_of(book)
        for entry in entries:
            with self.subTest(entry=entry):
                with self.assertRaises(BadEvent) as caught:
                    book.tell(entry)
                self.assertEqual(caught.exception.word, entry[0])
                self.assertIsInstance(caught.exception, RaceError)
                self.assertEqual(all_of(book), before)

    def check_right(self, entries):
        for entry in entries:
            with self.subTest(entry=entry):
                book = Book(2, CLUB)
                self.assertEqual(book.tell(entry), (1, 2, entry))
                self.assertEqual((book.held(), book.tellings()), ([(1, 2, entry)], [(1, 2, entry)]))

    def test_each_kind_of_entry(self):
        book = Book(5, CLUB)
        told = [book.tell(entry) for entry in (SLIP, CLOCK, TRANSFER, STAKE)]
        self.assertEqual(told, [(1, 5, SLIP), (2, 5, CLOCK), (3, 5, TRANSFER), (4, 5, STAKE)])
        self.assertEqual((book.held(), book.tellings()), (told, told))
        self.assertEqual(book.state(), ([CLOCK[1:]], [SLIP[1:]], [STAKE[1:]], [TRANSFER[1:]]))

    def test_one_entry_told_twice(self):
        book = Book(1, CLUB)
        self.assertEqual([book.tell(STAKE), book.tell(STAKE)], [(1, 1, STAKE), (2, 1, STAKE)])
        self.assertEqual(book.state()[2], [STAKE[1:]] * 2)

    def test_right_clocks(self):
        self.check_right([CLOCK, ("clock", 1, 1, 0, 1, 1), ("clock", 0, 1, 0, 9999, 9999),
                          ("clock", 1, 0, 9998, 9999, 9999)])

    def test_wrong_clocks(self):
        self.check_wrong([
            ("clock", 2, 0, 300, 900, 900), ("clock", -1, 0, 300, 900, 900), ("clock", 0, 2, 300, 900, 900),
            ("clock", 0, -1, 300, 900, 900), ("clock", 0, 0, -1, 900, 900), ("clock", 0, 0, 300, 300, 900),
            ("clock", 0, 0, 300, 900, 300), ("clock", 0, 0, 300, 10000, 900), ("clock", 0, 0, 300, 900, 10000),
            ("clock", 0, 0, 10000, 10001, 10001)])
        for at in range(1, 6):
            self.check_wrong([CLOCK[:at] + (other,) + CLOCK[at + 1:] for other in OTHER_KINDS + [None]])

    def test_right_slips(self):
        self.check_right([SLIP, ("slip", 1, 3, 0), ("slip", 0, 12, 9999), ("slip", 1, 12, None)])

    def test_wrong_slips(self):
        self.check_wrong([
            ("slip", 2, 7, 400), ("slip", -1, 7, 400), ("slip", 2, 7, None), ("slip", None, 7, 400),
            ("slip", 0, 8, 400), ("slip", 0, 0, 400), ("slip", 0, 1000, None), ("slip", 0, None, 400),
            ("slip", 0, 7, -1), ("slip", 0, 7, 10000)])
        for at in range(1, 4):
            self.check_wrong([SLIP[:at] + (other,) + SLIP[at + 1:] for other in OTHER_KINDS])

    def test_right_stakes(self):
        self.check_right([STAKE, ("stake", 1, 3, 0), ("stake", 0, 12, 1000), ("stake", 0, 12, 1)])

    def test_wrong_stakes(self):
        self.check_wrong([
            ("stake", 2, 7, 10), ("stake", -1, 7, 10), ("stake", 0, 8, 10), ("stake", 0, 7, -1), ("stake", 0, 7, 1001),
            ("stake", 0, 7, None)])
        for at in range(1, 4):
            self.check_wrong([STAKE[:at] + (other,) + STAKE[at + 1:] for other in OTHER_KINDS])

    def test_right_transfers(self):
        self.check_right([TRANSFER, ("transfer", 3, 0, "a"), ("transfer", 12, 1, "abcdefgh"),
                          ("transfer", 12, 1, "zzzzzzzz"), ("transfer", 7, 0, "hill"), ("transfer", 7, 0, "loft")])

    def test_wrong_transfers(self):
        self.check_wrong([
            ("transfer", 8, 0, "ann"), ("transfer", 0, 0, "ann"), ("transfer", 7, 2, "ann"),
            ("transfer", 7, -1, "ann")])
        self.check_wrong([("transfer", 7, 1, owner) for owner in (
            "", "abcdefghi", "Ann", "ANN", "ann1", "1", "an n", " ann", "ann ", "ann\n", "\nann", "a-n", "-", "ann bob",
            "{", "`", "\xe4nn", "\u0430nn", None, 7, True, ("ann",), ["a"], b"ann")])
        for at in range(1, 3):
            self.check_wrong([TRANSFER[:at] + (other,) + TRANSFER[at + 1:] for other in OTHER_KINDS])

    def test_entries_that_are_none(self):
        self.check_wrong([("bird", 0, 7, 400), ("", 0, 7, 400), ("slips", 0, 7, 400)])
        self.check_wrong([("clock",), ("slip",), ("stake",), ("transfer",)])
        for entry in (CLOCK, SLIP, STAKE, TRANSFER):
            self.check_wrong([entry[:-1], entry + (1,)])

    def test_entries_that_are_right_for_a_greater_club_only(self):
        greater = (CLUB[0], CLUB[1] + ((8, 0, 0),), CLUB[2] + (("east", 1, 1, 0, 1, 0, 0),))
        for entry in (("slip", 2, 8, 1), ("stake", 2, 8, 1), ("transfer", 8, 2, "ann"), ("clock", 2, 0, 0, 1, 1)):
            self.assertEqual(Book(1, greater).tell(entry), (1, 1, entry))
            self.check_wrong([entry])

    def test_eighty_tellings(self):
        book = full_book(1)
        self.assertEqual(len(book.held()), 80)
        self.assertEqual(book.held()[-1], (80, 1, ("stake", 0, 7, 79)))
        before = all_of(book)
        for entry in (CLOCK, SLIP, STAKE, TRANSFER):
            with self.assertRaises(TooMany) as caught:
                book.tell(entry)
            self.assertEqual(caught.exception.limit, 80)
            self.assertEqual(all_of(book), before)

    def test_eighty_tellings_and_a_wrong_entry(self):
        book = full_book(1)
        before = all_of(book)
        for entry in (("clock", 2, 0, 0, 1, 1), ("slip", 0, 8, 1), ("stake", 0, 7, 1001), ("transfer", 7, 0, "")):
            with self.assertRaises(BadEvent) as caught:
                book.tell(entry)
            self.assertEqual(caught.exception.word, entry[0])
            self.assertEqual(all_of(book), before)

    def test_seventy_nine_tellings(self):
        book = full_book(1, 79)
        self.assertEqual(book.tell(STAKE), (80, 1, STAKE))
        self.assertRaises(TooMany, book.tell, STAKE)

    def test_more_clocks_and_slips_than_a_club_has(self):
        book = book_of(1, *[CLOCK] * 40)
        for _ in range(40):
            book.tell(CLOCK)
        self.assertEqual(book.state()[0], [CLOCK[1:]] * 80)
        book = book_of(1, CLOCK, *[SLIP] * 79)
        self.assertEqual(book.state()[1], [SLIP[1:]] * 79)


class Merging(unittest.TestCase):
    def test_new_tellings_are_counted_and_taken_in_behind(self):
        one, other = book_of(2, CLOCK, SLIP), book_of(1, STAKE, TRANSFER, STAKE)
        self.assertEqual(one.merge(other), 3)
        self.assertEqual(one.held(), [(1, 2, CLOCK), (2, 2, SLIP), (1, 1, STAKE), (2, 1, TRANSFER), (3, 1, STAKE)])
        self.assertEqual(one.tellings(), [(1, 1, STAKE), (1, 2, CLOCK), (2, 1, TRANSFER), (2, 2, SLIP), (3, 1, STAKE)])
        self.assertEqual(other.held(), [(1, 1, STAKE), (2, 1, TRANSFER), (3, 1, STAKE)])

    def test_what_is_held_already_is_not_taken_again(self):
        one, other = book_of(1, CLOCK, SLIP), book_of(2, STAKE)
        self.assertEqual([one.merge(other), one.merge(other), other.merge(one), other.merge(one)], [1, 0, 2, 0])
        self.assertEqual(one.held(), [(1, 1, CLOCK), (2, 1, SLIP), (1, 2, STAKE)])
        self.assertEqual(other.held(), [(1, 2, STAKE), (1, 1, CLOCK), (2, 1, SLIP)])
        self.assertEqual(one.tellings(), other.tellings())
        other.tell(TRANSFER)
        self.assertEqual(one.merge(other), 1)
        self.assertEqual(one.held()[-1], (3, 2, TRANSFER))

    def test_new_tellings_are_taken_in_by_stamp_and_source(self):
        first, second, third = book_of(3, CLOCK, SLIP), book_of(2, STAKE), book_of(1, TRANSFER)
        first.merge(second)
        first.merge(third)
        self.assertEqual(first.held(), [(1, 3, CLOCK), (2, 3, SLIP), (1, 2, STAKE), (1, 1, TRANSFER)])
        fourth = book_of(4, SLIP)
        self.assertEqual(fourth.merge(first), 4)
        self.assertEqual(fourth.held(), [(1, 4, SLIP), (1, 1, TRANSFER), (1, 2, STAKE), (1, 3, CLOCK), (2, 3, SLIP)])

    def test_stamps_behind_a_merge(self):
        one, other = book_of(1, STAKE), book_of(2, *[STAKE] * 6)
        one.merge(other)
        self.assertEqual(one.tell(SLIP), (7, 1, SLIP))
        self.assertEqual(one.tell(SLIP), (8, 1, SLIP))
        self.assertEqual(other.tell(CLOCK), (7, 2, CLOCK))
        other.merge(one)
        self.assertEqual(other.tell(CLOCK), (9, 2, CLOCK))
        self.assertEqual(book_of(3).merge(other), 11)

    def test_a_lesser_stamp_does_not_lower_the_next_one(self):
        one, other = book_of(1, *[STAKE] * 5), book_of(2, STAKE)
        one.merge(other)
        self.assertEqual(one.held()[-1], (1, 2, STAKE))
        self.assertEqual(one.tell(SLIP), (6, 1, SLIP))

    def test_merged_with_itself(self):
        book = book_of(1, CLOCK, SLIP, STAKE)
        before = all_of(book)
        self.assertEqual(book.merge(book), 0)
        self.assertEqual(all_of(book), before)
        self.assertEqual(full_book(1).merge(full_book(1)), 0)

    def test_empty_books(self):
        empty, book = Book(1, CLUB), book_of(2, STAKE)
        self.assertEqual(book.merge(empty), 0)
        self.assertEqual(empty.merge(Book(3, CLUB)), 0)
        self.assertEqual(empty.merge(book), 1)
        self.assertEqual(empty.source(), 1)

    def test_another_club(self):
        book = book_of(1, STAKE)
        before = all_of(book)
        for club in ((CLUB[0], CLUB[1], CLUB[2][:1]), (CLUB[0], CLUB[1] + ((8, 0, 0),), CLUB[2]),
                     (CLUB[0], ((7, 0, 24), (3, 0, 1), (12, 1, 26)), CLUB[2])):
            for other in (Book(2, club), Book(1, club), book_of(2, STAKE, club=club),
                          book_of(3, *[STAKE] * 80, club=club)):
                self.assertRaises(OtherClub, book.merge, other)
                self.assertEqual(all_of(book), before)

    def test_a_clash_of_one_stamp_and_source(self):
        book = book_of(1, STAKE, SLIP)
        before = all_of(book)
        for other in (book_of(1, SLIP), book_of(1, STAKE, STAKE), book_of(1, STAKE, ("slip", 0, 7, 401), STAKE),
                      book_of(1, STAKE, ("slip", 0, 7, None)), book_of(1, STAKE, CLOCK, SLIP)):
            self.assertRaises(OtherClub, book.merge, other)
            self.assertRaises(OtherClub, other.merge, book)
            self.assertEqual(all_of(book), before)
        third = book_of(2, STAKE)
        third.merge(book_of(1, SLIP))
        self.assertRaises(OtherClub, book.merge, third)
        self.assertEqual(all_of(book), before)

    def test_books_of_one_source_that_agree(self):
        book = book_of(1, STAKE, SLIP)
        self.assertEqual(book.merge(book_of(1, STAKE)), 0)
        self.assertEqual(book.merge(book_of(1, STAKE, SLIP, CLOCK)), 1)
        self.assertEqual(book.held(), [(1, 1, STAKE), (2, 1, SLIP), (3, 1, CLOCK)])

    def test_too_many(self):
        book, other = full_book(1, 50), full_book(2, 31)
        before = all_of(book)
        with self.assertRaises(TooMany) as caught:
            book.merge(other)
        self.assertEqual(caught.exception.limit, 80)
        self.assertEqual(all_of(book), before)
        self.assertEqual(book.merge(full_book(2, 30)), 30)
        self.assertEqual(len(book.held()), 80)
        self.assertRaises(TooMany, book.merge, other)
        self.assertEqual(book.merge(full_book(2, 30)), 0)

    def test_only_new_tellings_are_too_many(self):
        book, other = full_book(1, 50), full_book(2, 20)
        book.merge(other)
        other.merge(full_book(1, 50))
        for _ in range(10):
            other.tell(STAKE)
        self.assertEqual(book.merge(other), 10)

    def test_a_clash_goes_ahead_of_too_many(self):
        book = full_book(1)
        other = full_book(2, 70)
        other.merge(book_of(1, STAKE))
        self.assertRaises(OtherClub, book.merge, other)
        self.assertEqual(book.held(), full_book(1).held())

    def test_any_order_of_merging_gives_the_same(self):
        entries = [CLOCK, SLIP, STAKE, TRANSFER, ("slip", 0, 3, 410), ("clock", 0, 1, 300, 900, 900),
                   ("slip", 0, 12, 460), ("stake", 0, 3, 4), ("slip", 0, 7, None), ("clock", 0, 0, 300, 900, 600)]
        parts = [entries[n::4] for n in range(4)]
        told = None
        for order in itertools.permutations(range(4)):
            books = [book_of(n + 1, *parts[n]) for n in range(4)]
            book = Book(9, CLUB)
            for n in order:
                book.merge(books[n])
                book.merge(books[order[0]])
            for n in order:
                books[n].merge(book)
            found = [(other.tellings(), other.state()) for other in books + [book]]
            self.assertTrue(all(one == found[0] for one in found))
            told = told or found[0]
            self.assertEqual(found[0], told)


class State(unittest.TestCase):
    def test_the_parts_stand_in_the_order_of_the_tellings(self):
        one = book_of(2, CLOCK, ("slip", 0, 7, 400), ("stake", 0, 7, 1), ("transfer", 7, 0, "b"))
        other = book_of(1, ("clock", 1, 0, 300, 900, 900), ("slip", 0, 3, 401), ("stake", 0, 7, 2),
                        ("transfer", 7, 0, "a"))
        told = ([(1, 0, 300, 900, 900), (0, 0, 300, 900, 900)], [(0, 3, 401), (0, 7, 400)],
                [(0, 7, 2), (0, 7, 1)], [(7, 0, "a"), (7, 0, "b")])
        one.merge(other)
        self.assertEqual(one.state(), told)
        other.merge(one)
        self.assertEqual(other.state(), told)

    def test_a_slip_ahead_of_its_clock(self):
        book = book_of(1, SLIP)
        self.assertEqual(book.state(), ([], [], [], []))
        book.tell(("clock", 1, 0, 300, 900, 900))
        book.tell(("clock", 0, 1, 300, 900, 900))
        self.assertEqual(book.state()[1], [])
        book.tell(CLOCK)
        self.assertEqual(book.state()[1], [SLIP[1:]])
        self.assertEqual(len(book.held()), 4)

    def test_a_slip_that_a_later_clock_makes_wrong(self):
        book = book_of(1, CLOCK, SLIP, ("slip", 0, 3, 600), ("clock", 0, 0, 500, 900, 900))
        self.assertEqual(book.state()[:2], ([CLOCK[1:], (0, 0, 500, 900, 900)], [(0, 3, 600)]))
        book.tell(CLOCK)
        self.assertEqual(book.state()[1], [SLIP[1:], (0, 3, 600)])
        book.tell(("clock", 0, 0, 300, 900, 399))
        self.assertEqual(book.state()[1], [])

    def test_readings_beside_the_clock(self):
        for reading, right in ((299, False), (300, True), (900, True), (901, False), (0, False), (9999, False)):
            book = book_of(1, ("slip", 0, 7, reading), CLOCK)
            self.assertEqual(book.state()[1], [(0, 7, reading)] if right else [])

    def test_a_wrong_slip_leaves_the_one_ahead_of_it(self):
        book = book_of(1, CLOCK, ("slip", 0, 7, 400), ("slip", 0, 7, 950))
        self.assertEqual(book.state()[1], [(0, 7, 400)])
        book.tell(("clock", 0, 0, 300, 900, 1000))
        self.assertEqual(book.state()[1], [(0, 7, 400), (0, 7, 950)])

    def test_readings_of_none_are_right_without_a_clock(self):
        book = book_of(1, ("slip", 0, 7, None), ("slip", 1, 12, None))
        self.assertEqual(book.state()[1], [(0, 7, None), (1, 12, None)])
        book = book_of(1, CLOCK, SLIP, ("slip", 0, 7, None))
        self.assertEqual(book.state()[1], [SLIP[1:], (0, 7, None)])
        self.assertEqual(race_list(CLUB, book.state()[0], book.state()[1], 0), [])

    def test_a_clock_that_comes_by_a_merge(self):
        one, other = book_of(1, SLIP), book_of(2, CLOCK)
        one.merge(other)
        self.assertEqual(one.state()[:2], ([CLOCK[1:]], [SLIP[1:]]))

    def test_the_clock_that_counts_is_told_by_stamp_and_source(self):
        # The book 1 holds its own clock first, and by the source it is the first one, too.
        one, other = book_of(1, CLOCK, SLIP), book_of(2, ("clock", 0, 0, 500, 900, 900))
        one.merge(other)
        self.assertEqual(one.state()[1], [])
        one, other = book_of(2, CLOCK, SLIP), book_of(1, ("clock", 0, 0, 500, 900, 900))
        one.merge(other)
        self.assertEqual(one.held()[-1][1], 1)
        self.assertEqual(one.state()[1], [SLIP[1:]])

    def test_what_is_returned_is_new(self):
        book = book_of(1, CLOCK, SLIP, STAKE, TRANSFER)
        before = all_of(book)
        for rows in (book.tellings(), book.held()) + book.state():
            self.assertIs(type(rows), list)
            rows.append(None)
        self.assertIs(type(book.state()), tuple)
        self.assertEqual(all_of(book), before)

    def test_slips_of_many_states_are_right(self):
        chance = random.Random(71)
        for _ in range(150):
            book = Book(1, CLUB)
            for _ in range(chance.randint(1, 30)):
                begin, race = chance.randint(300, 500), chance.randrange(2)
                reading = chance.choice([None, chance.randint(300, 600)])
                book.tell(chance.choice([
                    ("clock", race, chance.randrange(2), begin, begin + 100, begin + chance.randint(80, 120)),
                    ("slip", race, chance.choice([7, 3, 12]), reading)]))
            clocks, slips, _, _ = book.state()
            self.assertEqual(clocks, [entry[1:] for _, _, entry in book.tellings() if entry[0] == "clock"])
            known = []
            for _, _, entry in book.tellings():
                if entry[0] == "slip":
                    try:
                        check_slip(CLUB, clocks, entry[1:])
                        known.append(entry[1:])
                    except BadSlip:
                        pass
            self.assertEqual(slips, known)


class MergedBooks(unittest.TestCase):
    """Books merged in any order, also several times, tell the same."""

    def entry(self, chance):
        race, ring = chance.randrange(2), chance.choice([7, 3, 12])
        return chance.choice([
            ("clock", race, chance.randrange(2), 300, chance.choice([900, 950]), chance.choice([880, 900])),
            ("slip", race, ring, chance.choice([None, 390, 395, 400, 700, 890])),
            ("slip", race, ring, chance.choice([390, 395, 400])),
            ("stake", race, ring, chance.choice([0, 1, 5, 10])),
            ("transfer", ring, race, chance.choice(["ann", "bob"]))])

    def told_of(self, book):
        clocks, slips, stakes, transfers = book.state()
        return (book.tellings(), book.state(), [race_list(CLUB, clocks, slips, race) for race in range(2)],
                season_list(CLUB, clocks, slips, (5, 3, 1), 2), loft_list(CLUB, clocks, slips, (5, 3, 1), 2),
                accounts(CLUB, clocks, slips, stakes, (2, 1), transfers))

    def test_books_that_are_merged_at_any_time(self):
        chance = random.Random(72)
        for _ in range(60):
            books = [Book(source, CLUB) for source in range(1, 5)]
            for _ in range(chance.randint(4, 40)):
                book = chance.choice(books)
                if chance.randrange(4):
                    book.tell(self.entry(chance))
                else:
                    book.merge(chance.choice(books))
            for order in (books, books[::-1], books, chance.sample(books, 4)):
                for book in order:
                    for other in chance.sample(books, 4):
                        book.merge(other)
            found = [self.told_of(book) for book in books]
            self.assertEqual(found, [found[0]] * 4)
            self.assertEqual(sum(total for _, total in found[0][5]), 0)
            keys = [(stamp, source) for stamp, source, _ in found[0][0]]
            self.assertEqual(keys, sorted(set(keys)))


class Interface(unittest.TestCase):
    def test_the_class_and_its_methods_are_defined_in_their_file(self):
        self.assertEqual(Book.__module__, "homingtrue.books")
        self.assertIs(homingtrue.books.Book, Book)
        for name in ("source", "club", "tellings", "held", "state", "tell", "merge"):
            self.assertIn(name, vars(Book))


if __name__ == "__main__":
    unittest.main()
