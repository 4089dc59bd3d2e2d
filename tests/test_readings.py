"""[r1]: readings that would do for a place."""

import random
import unittest

import homingtrue.readings
from homingtrue.lists import place_in, race_list
from homingtrue.readings import place_with, reading_for
from tests.known import known_list, situation
from tests.test_outlook import CLOCKS, CLUB, slips_of

SLIPS = slips_of(0, r7=370, r3=410, r12=460)


def known_place_with(club, clocks, slips, race, ring, reading):
    return place_in(known_list(club, clocks, list(slips) + [(race, ring, reading)], race), ring)


def known_reading_for(club, clocks, slips, race, ring, place):
    """The greatest reading, found by looking at all of them."""
    loft = [bird[1] for bird in club[1] if bird[0] == ring][0]
    told = [clock for clock in clocks if clock[:2] == (race, loft)]
    found = None
    if told:
        for reading in range(told[-1][2], told[-1][4] + 1):
            had = known_place_with(club, clocks, slips, race, ring, reading)
            if had is not None and had <= place:
                found = reading
    return found


class PlaceWith(unittest.TestCase):
    def check(self, ring, reading, told, slips=SLIPS, clocks=CLOCKS, race=0):
        with self.subTest(ring=ring, reading=reading, slips=slips):
            self.assertEqual(place_with(CLUB, clocks, slips, race, ring, reading), told)

    def test_a_bird_without_a_slip(self):
        for reading, place in ((361, 1), (369, 1), (370, 1), (371, 2), (410, 2), (411, 3), (460, 3), (461, 4),
                               (900, 4)):
            self.check(5, reading, place)

    def test_a_bird_with_a_slip_has_it_no_more(self):
        for reading, place in ((361, 1), (370, 1), (371, 2), (459, 2), (460, 2), (461, 3)):
            self.check(3, reading, place)
        self.check(7, 410, 1)
        self.check(7, 411, 2)
        self.check(7, 461, 3)

    def test_arrivals_that_do_not_count(self):
        for reading in (300, 359, 360, 901, 1000):
            self.check(5, reading, None)
            self.check(7, reading, None)
        self.check(5, 380, None, race=1)
        self.check(5, 381, 1, race=1)
        self.check(5, 500, None, race=2)

    def test_the_last_of_two_clocks_counts(self):
        clocks = CLOCKS + [(0, 1, 300, 400, 1000)]
        # By it the bird 12 came at 322 and 6/7, ahead of the start, and 790 is 370.
        self.check(5, 1000, 2, clocks=clocks)
        self.check(5, 790, 1, clocks=clocks)
        self.check(5, 791, 2, clocks=clocks)
        self.check(5, 720, None, clocks=clocks)

    def test_other_slips_stay(self):
        slips = slips_of(0, r7=400, r3=410) + slips_of(1, r5=500) + slips_of(0, r7=370, r5=None)
        self.check(5, 390, 2, slips=slips)
        self.check(5, 370, 1, slips=slips)
        self.check(5, 390, 1, slips=slips, race=1)

    def test_no_slips(self):
        self.check(5, 900, 1, slips=[])


class ReadingFor(unittest.TestCase):
    def check(self, ring, place, told, slips=SLIPS, clocks=CLOCKS, race=0, club=CLUB):
        with self.subTest(ring=ring, place=place, slips=slips, clocks=clocks):
            self.assertEqual(reading_for(club, clocks, slips, race, ring, place), told)
            self.assertEqual(known_reading_for(club, clocks, slips, race, ring, place), told)

    def test_the_greatest_reading_with_at_most_a_place(self):
        for place, reading in ((1, 370), (2, 410), (3, 460), (4, 900), (5, 900), (12, 900)):
            self.check(5, place, reading)

    def test_a_bird_with_a_slip(self):
        for place, reading in ((1, 370), (2, 460), (3, 900), (4, 900)):
            self.check(3, place, reading)
        for place, reading in ((1, 410), (2, 460), (3, 900)):
            self.check(7, place, reading)

    def test_none(self):
        self.check(5, 0, None)
        self.check(9, 0, None)
        # A short way: at the first minute it has 1, which is below all of them.
        for place in (1, 2, 3):
            self.check(9, place, None)
        self.check(9, 4, 900)

    def test_no_clock(self):
        clocks = [clock for clock in CLOCKS if clock[:2] != (0, 1)]
        slips = slips_of(0, r7=370)
        for place in (0, 1, 12):
            self.check(5, place, None, slips=slips, clocks=clocks)
        self.check(5, 1, None, slips=[], clocks=[])
        self.check(3, 1, 370, slips=slips, clocks=clocks)

    def test_the_last_of_two_clocks_counts(self):
        slips = slips_of(0, r7=370, r3=410)
        clocks = CLOCKS + [(0, 1, 300, 900, 600)]
        # 335 tells the true time 370, and 355 the true time 410.
        for place, reading in ((1, 335), (2, 355), (3, 600)):
            self.check(5, place, reading, slips=slips, clocks=clocks)
        for place, reading in ((1, 370), (2, 410), (3, 900)):
            self.check(5, place, reading, slips=slips, clocks=[(0, 1, 300, 900, 600)] + CLOCKS)

    def test_a_clock_that_ends_ahead_of_the_close(self):
        for end, place, reading in ((450, 3, 450), (450, 4, 450), (411, 3, 411), (411, 2, 410), (361, 1, 361)):
            self.check(5, place, reading, clocks=CLOCKS + [(0, 1, 300, end, end)], slips=slips_of(0, r7=370, r3=410))

    def test_a_clock_whose_readings_do_not_count(self):
        for clock in ((0, 1, 300, 360, 360), (0, 1, 300, 360, 500), (0, 1, 901, 1000, 1000), (0, 1, 0, 1, 500)):
            for place in (0, 1, 12):
                self.check(5, place, None, clocks=CLOCKS + [clock], slips=slips_of(0, r7=370))

    def test_a_clock_that_begins_behind_the_start(self):
        slips = slips_of(0, r7=370, r3=410)
        for begin, place, reading in ((370, 1, 370), (371, 1, None), (371, 2, 410), (411, 2, None), (900, 3, 900)):
            self.check(5, place, reading, clocks=CLOCKS + [(0, 1, begin, 1000, 1000)], slips=slips)

    def test_the_close(self):
        self.check(5, 1, 900, slips=[])
        self.check(5, 1, 900, slips=[], race=1)
        self.check(5, 1, None, slips=[], race=2)
        # The clock runs slow: 1100 tells 900, and 1101 a time behind it.
        self.check(5, 1, 1100, slips=[], clocks=[(0, 1, 300, 1200, 1500)])

    def test_a_flight_of_0_up_to_the_first_reading_that_counts(self):
        slips = slips_of(1, r7=381, r12=390)
        for place, reading in ((0, None), (1, 381), (2, 390), (3, 900)):
            self.check(5, place, reading, slips=slips, race=1)
        club = (CLUB[0], CLUB[1], (("north", 300, 400, 360, 900, 300, 899),))
        self.check(5, 1, 900, slips=[], club=club)
        self.check(5, 1, 900, slips=[(0, 7, 900)], club=club)

    def test_a_dark_in_the_midst(self):
        # The flight stands still from 400 to 500, and the speed, too.
        club = (CLUB[0], CLUB[1], (("north", 300, 400, 360, 900, 400, 500),))
        self.check(5, 1, 500, slips=[(0, 7, 400)], club=club)
        self.check(5, 1, 500, slips=[(0, 7, 450)], club=club)
        self.check(5, 1, 399, slips=[(0, 7, 399)], club=club)

    def test_birds_of_one_speed_share_a_place(self):
        slips = slips_of(0, r7=370, r3=370, r12=410)
        for place, reading in ((1, 370), (2, 370), (3, 410), (4, 900)):
            self.check(5, place, reading, slips=slips)

    def test_a_loft_with_several_birds(self):
        for place, reading in ((1, 370), (2, 410), (3, 900)):
            self.check(12, place, reading)

    def test_the_longest_clock(self):
        club = (CLUB[0], CLUB[1], (("north", 300, 400, 0, 9999, 0, 0),))
        clocks = [(0, 0, 0, 9999, 9999), (0, 1, 0, 9999, 9999)]
        slips = [(0, 7, 9000), (0, 3, 1)]
        told = [reading_for(club, clocks, slips, 0, 5, place) for place in range(4)]
        self.assertEqual(told, [None, 1, 9000, 9999])

    def test_many_against_all_readings(self):
        chance = random.Random(61)
        found = {True: 0, False: 0}
        for _ in range(60):
            club, clocks, slips, race, _, _ = situation(chance)
            ring = chance.choice(club[1])[0]
            for place in range(1, 5):
                told = reading_for(club, clocks, slips, race, ring, place)
                self.assertEqual(told, known_reading_for(club, clocks, slips, race, ring, place))
                found[told is None] += 1
                if told is not None:
                    self.assertLessEqual(place_with(club, clocks, slips, race, ring, told), place)
            loft = [bird[1] for bird in club[1] if bird[0] == ring][0]
            told = [clock for clock in clocks if clock[1] == loft]
            if told:
                for reading in [chance.randint(290, told[-1][4]) for _ in range(5)]:
                    self.assertEqual(place_with(club, clocks, slips, race, ring, reading),
                                     known_place_with(club, clocks, slips, race, ring, reading))
        self.assertTrue(all(many > 40 for many in found.values()), found)


class Interface(unittest.TestCase):
    def test_arguments_have_the_told_names(self):
        told = {"club": CLUB, "clocks": CLOCKS, "slips": SLIPS, "race": 0, "ring": 5}
        self.assertEqual(place_with(reading=411, **told), 3)
        self.assertEqual(reading_for(place=2, **told), 410)

    def test_arguments_are_not_changed(self):
        slips, clocks = list(SLIPS), list(CLOCKS)
        place_with(CLUB, clocks, slips, 0, 5, 411)
        reading_for(CLUB, clocks, slips, 0, 5, 2)
        self.assertEqual((slips, clocks), (SLIPS, CLOCKS))
        self.assertEqual(race_list(CLUB, clocks, slips, 0), race_list(CLUB, CLOCKS, SLIPS, 0))

    def test_functions_are_defined_in_their_file(self):
        for function in (place_with, reading_for):
            with self.subTest(name=function.__name__):
                self.assertEqual(function.__module__, "homingtrue.readings")
                self.assertIs(getattr(homingtrue.readings, function.__name__), function)


if __name__ == "__main__":
    unittest.main()
