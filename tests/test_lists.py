"""[l1]: the list of a race."""

import itertools
import random
import unittest

import homingtrue.lists
from homingtrue.lists import place_in, race_list
from tests.known import known_list

# No dark, so that a flight is the true time less the start.
CLUB = ((("hill", 0, 0), ("mill", 600, 800), ("dell", 300, 399)),
        ((7, 0, 24), (3, 0, 1), (12, 1, 25), (5, 1, 2), (100, 2, 0), (9, 2, 5)),
        (("north", 300, 400, 360, 900, 0, 0), ("south", 0, 100, 100, 500, 300, 200)))
CLOCKS = [(0, 0, 300, 900, 900), (0, 1, 300, 900, 900), (0, 2, 300, 900, 900), (1, 0, 50, 450, 450)]


class Lists(unittest.TestCase):
    def check(self, slips, told, race=0, clocks=CLOCKS):
        with self.subTest(slips=slips, clocks=clocks):
            self.assertEqual(race_list(CLUB, clocks, slips, race), told)

    def test_no_slips(self):
        self.check([], [])
        self.check([], [], race=1)
        self.check([], [], clocks=[])

    def test_one_bird(self):
        self.check([(0, 7, 370)], [(1, 7, (2500, 1))])

    def test_the_greatest_speed_stands_first(self):
        self.check([(0, 7, 410), (0, 3, 370), (0, 12, 460)],
                   [(1, 3, (2500, 1)), (2, 7, (100, 1)), (3, 12, (25, 1))])

    def test_a_speed_tells_and_not_the_time(self):
        # The bird 9 is home first, but its way is short.
        self.check([(0, 9, 361), (0, 7, 365)], [(1, 7, (10000, 1)), (2, 9, (1, 1))])

    def test_speeds_are_ordered_exactly(self):
        # 1/9 is less than 1/8, and 4/25 than 1/4: neither the numerators nor the denominators tell it.
        rows = race_list(CLUB, CLOCKS, [(0, 9, 363), (0, 100, 362), (0, 7, 860), (0, 3, 900), (0, 12, 859)], 0)
        self.assertEqual(rows, [
            (1, 12, (250000, 249001)), (2, 7, (1, 1)), (3, 3, (625, 729)), (4, 100, (1, 4)), (5, 9, (1, 9))])

    def test_birds_of_one_speed_share_a_place_and_stand_by_their_rings(self):
        self.check([(0, 12, 410), (0, 7, 410), (0, 3, 410), (0, 5, 400), (0, 100, 361)],
                   [(1, 5, (625, 4)), (2, 3, (100, 1)), (2, 7, (100, 1)), (2, 12, (100, 1)), (5, 100, (1, 1))])
        self.check([(0, 7, 370), (0, 3, 370)], [(1, 3, (2500, 1)), (1, 7, (2500, 1))])
        self.check([(0, 12, 380), (0, 7, 370), (0, 5, 380), (0, 3, 370)],
                   [(1, 3, (2500, 1)), (1, 7, (2500, 1)), (3, 5, (625, 1)), (3, 12, (625, 1))])

    def test_one_speed_by_two_ways(self):
        clocks = [(0, 0, 300, 900, 900), (0, 1, 300, 900, 600)]
        # Both clocks tell the true time 460.
        self.check([(0, 12, 380), (0, 7, 460)], [(1, 7, (25, 1)), (1, 12, (25, 1))], clocks=clocks)

    def test_a_reading_of_none_takes_an_arrival_back(self):
        self.check([(0, 7, None)], [])
        self.check([(0, 7, 370), (0, 3, 371), (0, 7, None)], [(1, 3, (250000, 121))])
        self.check([(0, 7, 370), (0, 7, None), (0, 7, 380)], [(1, 7, (625, 1))])

    def test_arrivals_that_do_not_count(self):
        club_rows = [(0, 7, 359), (0, 3, 360), (0, 12, 300)]
        self.check(club_rows, [])
        self.check(club_rows + [(0, 5, 361)], [(1, 5, (250000, 1))])
        # Behind the close of the race 1, and in its dark, which ends at the minute 200.
        clocks = [(1, 0, 50, 950, 950)]
        self.check([(1, 7, 500), (1, 3, 501)], [(1, 7, (1, 1))], race=1, clocks=clocks)
        self.check([(1, 7, 200), (1, 3, 201)], [(1, 3, (10000, 1))], race=1, clocks=clocks)

    def test_an_arrival_that_does_not_count_has_no_earlier_one_behind_it(self):
        self.check([(0, 7, 370), (0, 7, 350)], [])

    def test_slips_told_again(self):
        self.check([(0, 7, 370), (0, 3, 380), (0, 7, 410)], [(1, 3, (625, 1)), (2, 7, (100, 1))])

    def test_clocks_told_again(self):
        slips = [(0, 7, 410), (0, 12, 460)]
        later = (0, 0, 300, 900, 600)
        self.check(slips, [(1, 7, (100, 1)), (2, 12, (25, 1))])
        self.check(slips, [(1, 12, (25, 1)), (2, 7, (625, 64))], clocks=CLOCKS + [later])
        self.check(slips, [(1, 7, (100, 1)), (2, 12, (25, 1))], clocks=[later] + CLOCKS)

    def test_other_races_do_not_matter(self):
        slips = [(1, 7, 300), (0, 7, 370), (1, 3, 250), (1, 7, None)]
        self.check(slips, [(1, 7, (2500, 1))])
        self.check(slips, [(1, 3, (4, 1))], race=1)

    def test_any_order_of_slips_and_clocks_of_different_birds(self):
        slips = [(0, 7, 410), (0, 3, 410), (0, 12, 460), (1, 7, 300), (0, 100, 361)]
        told = [(1, 3, (100, 1)), (1, 7, (100, 1)), (3, 12, (25, 1)), (4, 100, (1, 1))]
        for order in itertools.permutations(slips):
            self.assertEqual(race_list(CLUB, CLOCKS, list(order), 0), told)
        for order in itertools.permutations(CLOCKS):
            self.assertEqual(race_list(CLUB, list(order), slips, 0), told)

    def test_all_birds_of_the_greatest_club(self):
        birds = tuple((30 - n, n // 2, 0) for n in range(12))
        lofts = tuple(("abcdef"[n], n * 10, 0) for n in range(6))
        club = (lofts, birds, (("north", 0, 600, 0, 9999, 0, 0),) * 4)
        clocks = [(3, n, 0, 9999, 9999) for n in range(6)]
        slips = [(3, 30 - n, 100) for n in range(12)]
        rows = race_list(club, clocks, slips, 3)
        self.assertEqual(rows, known_list(club, clocks, slips, 3))
        self.assertEqual([place for place, _, _ in rows], [1, 1, 3, 3, 5, 5, 7, 7, 9, 9, 11, 11])
        self.assertEqual([ring for _, ring, _ in rows], [19, 20, 21, 22, 23, 24, 25, 26, 27, 28, 29, 30])

    def test_many_against_the_words(self):
        chance = random.Random(11)
        many = 0
        for _ in range(400):
            dusk, dawn = chance.choice([(0, 0), (1260, 300), (380, 390), (300, 200)])
            race = ("north", 300, 400, chance.randint(300, 400), chance.randint(401, 450), dusk, dawn)
            club = (CLUB[0], CLUB[1], (race, CLUB[2][1]))
            begins = [chance.randint(300, 380) for _ in range(7)]
            clocks = [(chance.choice([0, 0, 1]), chance.randrange(3), at, at + 100, at + chance.randint(95, 105))
                      for at in begins]
            slips = []
            for _ in range(chance.randint(0, 14)):
                ring, loft, _ = chance.choice(CLUB[1])
                told = ([clock for clock in clocks if clock[:2] == (0, loft)] or [None])[-1]
                reading = None
                if told and chance.randrange(5):
                    reading = chance.randint(told[2], told[4])
                slips.append((0, ring, reading))
            rows = race_list(club, clocks, slips, 0)
            self.assertEqual(rows, known_list(club, clocks, slips, 0))
            many += len(rows)
        self.assertGreater(many, 400)

    def test_arguments_are_not_changed_and_the_list_is_new(self):
        slips, clocks = [(0, 7, 410), (0, 3, 410), (0, 7, 411)], list(CLOCKS)
        rows = race_list(CLUB, clocks, slips, 0)
        again = race_list(CLUB, clocks, slips, 0)
        rows.append(None)
        self.assertEqual(race_list(CLUB, clocks, slips, 0), again)
        self.assertEqual((slips, clocks), ([(0, 7, 410), (0, 3, 410), (0, 7, 411)], CLOCKS))

    def test_the_kinds_of_values(self):
        rows = race_list(CLUB, CLOCKS, [(0, 7, 410)], 0)
        self.assertIs(type(rows), list)
        self.assertEqual([type(part) for part in rows[0]], [int, int, tuple])


class Places(unittest.TestCase):
    ROWS = [(1, 30, (9, 1)), (2, 3, (4, 1)), (2, 8, (4, 1)), (4, 1, (1, 4))]

    def test_one_that_is_there(self):
        self.assertEqual([place_in(self.ROWS, ring) for ring in (30, 3, 8, 1)], [1, 2, 2, 4])

    def test_one_that_is_not_there(self):
        for ring in (2, 4, 9, 999):
            self.assertIs(place_in(self.ROWS, ring), None)
        self.assertIs(place_in([], 7), None)

    def test_in_the_list_of_a_race(self):
        rows = race_list(CLUB, CLOCKS, [(0, 7, 410), (0, 3, 370), (0, 12, 410), (0, 5, None)], 0)
        self.assertEqual([place_in(rows, ring) for ring in (3, 7, 12, 5, 100)], [1, 2, 2, None, None])


class Interface(unittest.TestCase):
    def test_arguments_have_the_told_names(self):
        rows = race_list(club=CLUB, clocks=CLOCKS, slips=[(0, 7, 370)], race=0)
        self.assertEqual(rows, [(1, 7, (2500, 1))])
        self.assertEqual(place_in(rows=rows, ring=7), 1)

    def test_functions_are_defined_in_their_file(self):
        for function in (race_list, place_in):
            with self.subTest(name=function.__name__):
                self.assertEqual(function.__module__, "homingtrue.lists")
                self.assertIs(getattr(homingtrue.lists, function.__name__), function)


if __name__ == "__main__":
    unittest.main()
