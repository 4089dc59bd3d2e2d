"""[d2], [c2], [c3]: clocks and their true times."""

import fractions
import itertools
import unittest

import homingtrue.clocks
from homingtrue.clocks import check_clock, true_time
from homingtrue.errors import BadClock

CLUB = ((("hill", 0, 0), ("mill", 5, 5), ("dell", 9, 9)),
        ((7, 0, 24), (8, 1, 25)),
        (("north", 300, 400, 360, 900, 1260, 300), ("south", -5, -6, 0, 1, 0, 1439)))
PARTS = ["race", "loft", "begin", "end", "shown"]
RIGHT = (1, 2, 300, 900, 912)
OTHER_KINDS = [True, False, None, "0", "", "301", 301.0, 0.0, 1.5, b"1", (), (1,), (301, 1),
               [], [1], {}, {1: 1}, {1}, object(), int, fractions.Fraction(301)]


def wrong_part(clock, club=CLUB):
    """The word of the first part that is wrong, None if the clock is right."""
    try:
        told = check_clock(club, clock)
    except BadClock as bad:
        return bad.word
    return told


def with_part(place, part, clock=RIGHT):
    return clock[:place] + (part,) + clock[place + 1:]


class Checks(unittest.TestCase):
    def check(self, rows):
        for clock, told in rows:
            with self.subTest(clock=clock):
                self.assertEqual(wrong_part(clock), told)

    def test_right_clocks(self):
        self.check([
            (RIGHT, None),
            ((0, 0, 300, 900, 912), None),
            ((0, 1, 300, 900, 888), None),
            ((1, 0, 300, 900, 900), None),
            ((1, 2, 0, 1, 1), None),
            ((1, 2, 0, 9999, 1), None),
            ((1, 2, 0, 1, 9999), None),
            ((1, 2, 9998, 9999, 9999), None),
        ])
        self.assertIs(check_clock(CLUB, RIGHT), None)

    def test_the_race(self):
        self.check([(with_part(0, race), "race") for race in (-1, 2, 3, 4, 9999, -9999)])
        self.check([(with_part(0, race), None) for race in (0, 1)])

    def test_the_loft(self):
        self.check([(with_part(1, loft), "loft") for loft in (-1, 3, 4, 6, 9999, -9999)])
        self.check([(with_part(1, loft), None) for loft in (0, 1, 2)])

    def test_the_begin(self):
        self.check([(with_part(2, begin), "begin") for begin in (-1, -300, 10000, 99999)])
        self.check([(with_part(2, begin), None) for begin in (0, 1, 899)])

    def test_the_end(self):
        self.check([(with_part(3, end), "end") for end in (-1, 0, 299, 300, 10000, 99999)])
        self.check([(with_part(3, end), None) for end in (301, 912, 9999)])

    def test_what_it_showed(self):
        self.check([(with_part(4, shown), "shown") for shown in (-1, 0, 299, 300, 10000, 99999)])
        self.check([(with_part(4, shown), None) for shown in (301, 899, 900, 9999)])

    def test_a_begin_behind_which_no_minute_is_left(self):
        self.check([((0, 0, 9999, 9999, 9999), "end"), ((0, 0, 9999, 10000, 10000), "end")])

    def test_parts_of_another_kind(self):
        for place, part in enumerate(PARTS):
            for other in OTHER_KINDS:
                with self.subTest(part=part, other=other):
                    self.assertEqual(wrong_part(with_part(place, other)), part)

    def test_true_and_false_are_no_integers(self):
        # Each of them would be right if it were 1 or 0.
        least = (0, 0, 0, 1, 1)
        self.check([(least, None)])
        self.check([(with_part(place, True, least), part) for place, part in enumerate(PARTS) if place != 2])
        self.check([(with_part(place, False, least), part) for place, part in enumerate(PARTS)])
        self.check([((0, 0, True, 2, 2), "begin")])

    def test_the_first_wrong_part_counts(self):
        wrongs = [(9, True), (None, -1), (-1, "x"), (0, 300.5), (10000, False)]
        for places in itertools.product([False, True], repeat=5):
            for way in (0, 1):
                clock = tuple(wrongs[n][way] if places[n] else RIGHT[n] for n in range(5))
                told = [PARTS[n] for n in range(5) if places[n]]
                with self.subTest(clock=clock):
                    self.assertEqual(wrong_part(clock), (told + [None])[0])

    def test_a_club_without_races_or_lofts(self):
        self.assertEqual(wrong_part((0, 0, 0, 1, 1), (CLUB[0], CLUB[1], ())), "race")
        self.assertEqual(wrong_part((0, 0, 0, 1, 1), ((), (), CLUB[2])), "loft")
        self.assertEqual(wrong_part((0, 0, 0, 1, 1), ((), (), ())), "race")

    def test_the_club_of_the_greatest_size(self):
        club = (CLUB[0] * 2, (), CLUB[2] * 2)
        self.assertEqual(wrong_part((3, 5, 0, 1, 1), club), None)
        self.assertEqual(wrong_part((4, 5, 0, 1, 1), club), "race")
        self.assertEqual(wrong_part((3, 6, 0, 1, 1), club), "loft")


class TrueTimes(unittest.TestCase):
    def check(self, clock, rows):
        for reading, told in rows:
            with self.subTest(clock=clock, reading=reading):
                self.assertEqual(true_time(clock, reading), told)

    def test_the_example_of_the_interface(self):
        self.assertEqual(true_time((0, 0, 300, 900, 912), 402), (400, 1))

    def test_a_clock_that_is_right(self):
        self.check((0, 0, 300, 900, 900), [(n, (n, 1)) for n in (300, 301, 500, 899, 900)])
        self.check((0, 0, 300, 900, 900), [(n, None) for n in (0, 299, 901, 9999)])

    def test_a_clock_that_gains(self):
        self.check((0, 0, 300, 900, 912), [
            (299, None), (300, (300, 1)), (301, (15350, 51)), (351, (350, 1)), (606, (600, 1)),
            (900, (15100, 17)), (911, (45850, 51)), (912, (900, 1)), (913, None), (0, None), (9999, None)])

    def test_a_clock_that_loses(self):
        self.check((0, 0, 300, 900, 800), [
            (299, None), (300, (300, 1)), (301, (1506, 5)), (305, (306, 1)), (550, (600, 1)),
            (799, (4494, 5)), (800, (900, 1)), (801, None), (900, None)])

    def test_the_whole_range(self):
        self.check((0, 0, 0, 9999, 1), [(0, (0, 1)), (1, (9999, 1)), (2, None)])
        self.check((0, 0, 0, 1, 9999), [(0, (0, 1)), (1, (1, 9999)), (9, (1, 1111)), (9999, (1, 1))])
        self.check((0, 0, 9998, 9999, 9999), [(9997, None), (9998, (9998, 1)), (9999, (9999, 1))])

    def test_the_race_and_the_loft_do_not_matter(self):
        for race, loft in itertools.product(range(4), range(6)):
            self.assertEqual(true_time((race, loft, 300, 900, 912), 402), (400, 1))

    def test_many_clocks_against_the_library(self):
        for begin, end, shown in itertools.product((0, 7, 360), (361, 400, 9999), (363, 400, 1234)):
            clock = (0, 0, begin, end, shown)
            for reading in range(begin, shown + 1, 3):
                known = begin + fractions.Fraction((reading - begin) * (end - begin), shown - begin)
                told = true_time(clock, reading)
                if told != (known.numerator, known.denominator):
                    self.fail((clock, reading, told))

    def test_it_is_a_fraction(self):
        told = true_time((0, 0, 300, 900, 912), 301)
        self.assertIs(type(told), tuple)
        self.assertEqual([type(part) for part in told], [int, int])


class Interface(unittest.TestCase):
    def test_arguments_have_the_told_names(self):
        self.assertIs(check_clock(club=CLUB, clock=RIGHT), None)
        self.assertEqual(true_time(clock=RIGHT, reading=402), (400, 1))

    def test_functions_are_defined_in_their_file(self):
        for function in (check_clock, true_time):
            with self.subTest(name=function.__name__):
                self.assertEqual(function.__module__, "homingtrue.clocks")
                self.assertIs(getattr(homingtrue.clocks, function.__name__), function)


if __name__ == "__main__":
    unittest.main()
