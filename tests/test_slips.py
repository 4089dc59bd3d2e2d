"""[s1], [s2]: slips and clocks that count, and slips that are right."""

import fractions
import itertools
import unittest

import homingtrue.slips
from homingtrue.errors import BadSlip
from homingtrue.slips import check_slip, counting, counting_clocks

CLUB = ((("hill", 0, 0), ("mill", 5, 5), ("dell", 9, 9)),
        ((7, 0, 24), (1, 1, 25), (999, 1, 0), (30, 2, 5)),
        (("north", 300, 400, 360, 900, 1260, 300), ("south", -5, -6, 0, 1, 0, 1439)))
# The loft 2 has no clock in the race 0, the loft 0 none in the race 1.
CLOCKS = [(0, 0, 300, 900, 912), (0, 1, 400, 800, 700), (1, 1, 0, 9999, 5000), (1, 2, 10, 20, 30)]
PARTS = ["race", "ring", "reading"]
OTHER_KINDS = [True, False, "0", "", "7", "401", 0.0, 1.0, 7.0, 401.0, b"7", (), (7,), (401, 1),
               [], [7], {}, {7: 7}, {7}, object(), int, fractions.Fraction(401), fractions.Fraction(7)]


def wrong_part(slip, clocks=CLOCKS, club=CLUB):
    """The word of the first part that is wrong, None if the slip is right."""
    try:
        told = check_slip(club, clocks, slip)
    except BadSlip as bad:
        return bad.word
    return told


class Counting(unittest.TestCase):
    def test_the_empty_list(self):
        self.assertEqual(counting([]), [])
        self.assertEqual(counting_clocks([]), [])

    def test_slips_told_once(self):
        self.assertEqual(counting([(0, 7, 401)]), [(0, 7, 401)])
        self.assertEqual(counting([(0, 7, None)]), [(0, 7, None)])
        self.assertEqual(counting([(0, 7, 401), (0, 8, 401), (1, 7, 401)]), [(0, 7, 401), (0, 8, 401), (1, 7, 401)])

    def test_the_last_slip_of_a_race_and_a_ring_counts(self):
        self.assertEqual(counting([(0, 7, 401), (0, 7, 390)]), [(0, 7, 390)])
        self.assertEqual(counting([(0, 7, 390), (0, 7, 401)]), [(0, 7, 401)])
        self.assertEqual(counting([(0, 7, 390), (0, 7, 401), (0, 7, 390)]), [(0, 7, 390)])
        self.assertEqual(counting([(0, 7, 390), (0, 7, None)]), [(0, 7, None)])
        self.assertEqual(counting([(0, 7, None), (0, 7, 390)]), [(0, 7, 390)])
        self.assertEqual(counting([(0, 7, 1), (1, 7, 2), (0, 8, 3), (0, 7, 4), (1, 7, 5), (0, 8, 6), (1, 7, 0)]),
                         [(0, 7, 4), (0, 8, 6), (1, 7, 0)])

    def test_slips_are_sorted_by_race_then_by_ring(self):
        slips = [(0, 7, 9), (0, 30, 8), (0, 999, None), (1, 1, 7), (1, 10, 6), (3, 2, 5)]
        for order in itertools.permutations(slips):
            if counting(list(order)) != slips:
                self.assertEqual(counting(list(order)), slips, order)

    def test_readings_do_not_order_slips(self):
        self.assertEqual(counting([(0, 8, 1), (0, 7, 9999), (0, 6, None)]), [(0, 6, None), (0, 7, 9999), (0, 8, 1)])

    def test_clocks_told_once_and_again(self):
        self.assertEqual(counting_clocks(CLOCKS), CLOCKS)
        self.assertEqual(counting_clocks([CLOCKS[0], (0, 0, 310, 950, 951)]), [(0, 0, 310, 950, 951)])
        self.assertEqual(counting_clocks([(0, 0, 310, 950, 951), CLOCKS[0]]), [CLOCKS[0]])
        self.assertEqual(
            counting_clocks([(0, 1, 9, 10, 11), (0, 0, 310, 950, 951), CLOCKS[1], (1, 0, 1, 2, 3), (0, 1, 2, 3, 4)]),
            [(0, 0, 310, 950, 951), (0, 1, 2, 3, 4), (1, 0, 1, 2, 3)])

    def test_clocks_are_sorted_by_race_then_by_loft(self):
        clocks = [(0, 0, 9, 10, 11), (0, 1, 8, 9, 10), (0, 5, 7, 8, 9), (1, 0, 6, 7, 8), (3, 4, 0, 1, 2)]
        for order in itertools.permutations(clocks):
            if counting_clocks(list(order)) != clocks:
                self.assertEqual(counting_clocks(list(order)), clocks, order)

    def test_all_short_rows_against_the_words(self):
        for rows in itertools.product([(0, 1, 5), (0, 1, None), (0, 2, 4), (1, 1, 3), (1, 1, 9)], repeat=4):
            known = [row for at, row in enumerate(rows)
                     if not any(later[:2] == row[:2] for later in rows[at + 1:])]
            told = counting(list(rows))
            if told != sorted(known, key=lambda row: row[:2]):
                self.fail((rows, told))

    def test_arguments_are_not_changed_and_lists_are_new(self):
        for count in (counting, counting_clocks):
            rows = [CLOCKS[3], CLOCKS[0], CLOCKS[3]]
            told = count(rows)
            self.assertIs(type(told), list)
            told.append(None)
            self.assertEqual(rows, [CLOCKS[3], CLOCKS[0], CLOCKS[3]])
            self.assertEqual(count(rows), [CLOCKS[0], CLOCKS[3]])
            empty = count([])
            empty.append(None)
            self.assertEqual(count([]), [])


class Checks(unittest.TestCase):
    def check(self, rows, clocks=CLOCKS):
        for slip, told in rows:
            with self.subTest(slip=slip):
                self.assertEqual(wrong_part(slip, clocks), told)

    def test_right_slips(self):
        self.check([((0, 7, 401), None), ((0, 1, 500), None), ((0, 999, 500), None),
                    ((1, 1, 500), None), ((1, 30, 15), None)])
        self.assertIs(check_slip(CLUB, CLOCKS, (0, 7, 401)), None)

    def test_the_race(self):
        self.check([((race, 7, None), "race") for race in (-1, 2, 3, 4, 9999)])
        self.check([((race, 7, None), None) for race in (0, 1)])

    def test_the_ring(self):
        self.check([((0, ring, None), "ring") for ring in (0, 2, 3, 6, 8, 24, 25, 998, 1000, -7, -1)])
        self.check([((0, ring, None), None) for ring in (7, 1, 999, 30)])

    def test_the_reading_at_its_bounds(self):
        self.check([((0, 7, 299), "reading"), ((0, 7, 300), None), ((0, 7, 912), None), ((0, 7, 913), "reading"),
                    ((0, 1, 399), "reading"), ((0, 1, 400), None), ((0, 999, 700), None), ((0, 999, 701), "reading"),
                    ((1, 1, 0), None), ((1, 1, -1), "reading"), ((1, 1, 5000), None), ((1, 1, 5001), "reading"),
                    ((1, 30, 9), "reading"), ((1, 30, 10), None), ((1, 30, 30), None), ((1, 30, 31), "reading"),
                    ((1, 30, 10000), "reading")])

    def test_a_reading_hangs_on_the_clock_alone_and_not_on_the_race(self):
        # Ahead of the start and behind the close there is a true time, though it does not count.
        self.check([((0, 7, 350), None), ((0, 7, 912), None), ((1, 1, 4999), None)])

    def test_none_as_a_reading(self):
        self.check([((race, ring, None), None) for race in (0, 1) for ring in (7, 1, 999, 30)])
        self.check([((race, ring, None), None) for race in (0, 1) for ring in (7, 1, 999, 30)], clocks=[])

    def test_no_clock_for_the_loft(self):
        self.check([((0, 30, 500), "reading"), ((0, 30, 15), "reading"), ((1, 7, 401), "reading"),
                    ((1, 7, 15), "reading"), ((0, 30, 0), "reading")])
        self.check([((0, 7, 401), "reading"), ((0, 7, 0), "reading")], clocks=[])

    def test_the_last_clock_counts(self):
        later = (0, 0, 500, 600, 700)
        self.check([((0, 7, 499), "reading"), ((0, 7, 500), None), ((0, 7, 700), None), ((0, 7, 701), "reading")],
                   clocks=CLOCKS + [later])
        self.check([((0, 7, 499), None), ((0, 7, 700), None), ((0, 7, 701), None), ((0, 7, 299), "reading")],
                   clocks=[later] + CLOCKS)
        self.check([((0, 1, 399), "reading"), ((0, 1, 400), None), ((1, 30, 30), None)], clocks=CLOCKS + [later])

    def test_parts_of_another_kind(self):
        for place, part in enumerate(PARTS):
            for other in OTHER_KINDS + ([None] if place < 2 else []):
                slip = tuple(other if n == place else (0, 7, 401)[n] for n in range(3))
                with self.subTest(slip=slip):
                    self.assertEqual(wrong_part(slip), part)

    def test_true_and_false_are_no_integers(self):
        # Each of them would be right if it were 1 or 0.
        self.check([((1, 1, 1), None), ((1, 1, 0), None), ((0, 1, None), None)])
        self.check([((True, 1, 1), "race"), ((False, 1, None), "race"), ((1, True, 1), "ring"),
                    ((1, False, 1), "ring"), ((1, 1, True), "reading"), ((1, 1, False), "reading")])

    def test_the_first_wrong_part_counts(self):
        for race, ring, reading in itertools.product([0, 2, None], [7, 8, "7"], [401, 299, "x", False]):
            wrong = [race != 0, ring != 7, reading != 401]
            told = [PARTS[n] for n in range(3) if wrong[n]] + [None]
            with self.subTest(slip=(race, ring, reading)):
                self.assertEqual(wrong_part((race, ring, reading)), told[0])

    def test_a_club_of_nothing(self):
        self.assertEqual(wrong_part((0, 7, None), [], ((), (), ())), "race")
        self.assertEqual(wrong_part((0, 7, None), [], ((), (), CLUB[2])), "ring")

    def test_arguments_are_not_changed(self):
        clocks = list(CLOCKS)
        check_slip(CLUB, clocks, (0, 7, 401))
        self.assertRaises(BadSlip, check_slip, CLUB, clocks, (0, 7, 299))
        self.assertEqual(clocks, CLOCKS)


class Interface(unittest.TestCase):
    def test_arguments_have_the_told_names(self):
        self.assertEqual(counting(rows=[(0, 7, 401)]), [(0, 7, 401)])
        self.assertEqual(counting_clocks(clocks=CLOCKS[:1]), CLOCKS[:1])
        self.assertIs(check_slip(club=CLUB, clocks=CLOCKS, slip=(0, 7, 401)), None)

    def test_functions_are_defined_in_their_file(self):
        for function in (counting, counting_clocks, check_slip):
            with self.subTest(name=function.__name__):
                self.assertEqual(function.__module__, "homingtrue.slips")
                self.assertIs(getattr(homingtrue.slips, function.__name__), function)


if __name__ == "__main__":
    unittest.main()
