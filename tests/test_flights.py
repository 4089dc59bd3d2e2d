"""[d3], [d4]: the dark, flights, and speeds of arrivals that count."""

import fractions
import itertools
import random
import unittest

import homingtrue.flights
from homingtrue.clubs import read_club
from homingtrue.flights import dark_part, flight, speed
from tests.known import known_dark, number, pair

NOUGHT = (0, 1)
EXAMPLE = ("loft hill at 0 0\nbird 7 of hill year 24\n"
           "race north from 300 400 start 360 close 900 dark 1260 to 300")


def race_of(dusk, dawn, start=360, close=900):
    return ("north", 300, 400, start, close, dusk, dawn)


def club_of(race, lofts=(("hill", 0, 0),)):
    return (tuple(lofts), ((7, 0, 24),), (race,))


class Dark(unittest.TestCase):
    def check(self, dusk, dawn, rows):
        for first, last, told in rows:
            with self.subTest(dusk=dusk, dawn=dawn, first=first, last=last):
                self.assertEqual(dark_part(race_of(dusk, dawn), pair(first), pair(last)), pair(told))

    def test_a_dark_over_midnight(self):
        self.check(1260, 300, [
            (0, 300, 300), (0, 299, 299), (0, 301, 300), (0, 1, 1), (100, 200, 100), (299, 301, 1),
            (300, 1260, 0), (301, 1259, 0), (300, 1261, 1), (1259, 1261, 1), (1260, 1440, 180),
            (1260, 1740, 480), (1440, 1740, 300), (1000, 2000, 480), (1300, 1500, 200), (1741, 2699, 0),
            (0, 1440, 480), (0, 9999, 6 * 480 + 300 + 99)])

    def test_a_dark_within_a_day(self):
        self.check(60, 240, [
            (0, 60, 0), (0, 61, 1), (59, 61, 1), (60, 240, 180), (0, 1440, 180), (240, 1440, 0), (239, 241, 1),
            (240, 1500, 0), (240, 1501, 1), (100, 200, 100), (100, 1540, 180), (100, 1600, 240),
            (200, 1550, 90), (0, 9999, 7 * 180)])
        self.check(0, 1439, [(0, 1440, 1439), (1438, 1440, 1), (1439, 1440, 0), (0, 2880, 2878)])
        self.check(1438, 1439, [(0, 1438, 0), (0, 1440, 1), (1438, 1439, 1), (0, 9999, 6)])

    def test_dusk_and_dawn_at_the_same_minute(self):
        for minute in (0, 1, 720, 1439):
            self.check(minute, minute, [
                (0, 0, 0), (0, 1440, 0), (0, 9999, 0), (minute, minute + 1, 0), (700, 740, 0)])

    def test_bounds_of_dusk_and_dawn(self):
        self.check(1439, 0, [(0, 1439, 0), (0, 1440, 1), (1439, 1440, 1), (1440, 2879, 0), (0, 9999, 6)])
        self.check(0, 1, [(0, 1, 1), (1, 1440, 0), (1440, 1442, 1), (0, 9999, 7)])
        self.check(1, 0, [(0, 1, 0), (1, 1440, 1439), (1440, 1441, 0), (0, 1441, 1439), (0, 2880, 2878)])
        self.check(1439, 1438, [(0, 1438, 1438), (1438, 1439, 0), (1439, 2880, 1440), (0, 2880, 2878)])

    def test_the_first_dawn_ends_a_dark_that_began_ahead_of_the_minute_0(self):
        self.check(1260, 300, [(0, 300, 300), (0, 200, 200), (200, 400, 100)])
        self.check(300, 1260, [(0, 300, 0), (0, 301, 1)])

    def test_stretches_within_a_minute(self):
        third, half = fractions.Fraction(1, 3), fractions.Fraction(1, 2)
        self.check(1260, 300, [
            (third, half, fractions.Fraction(1, 6)),
            (1260 + third, 1260 + half, fractions.Fraction(1, 6)),
            (299 + third, 299 + half, fractions.Fraction(1, 6)),
            (300 + third, 300 + half, 0),
            (1259 + third, 1259 + half, 0),
            (1440 + third, 1440 + half, fractions.Fraction(1, 6))])

    def test_stretches_from_a_fraction_to_a_fraction(self):
        third, half = fractions.Fraction(1, 3), fractions.Fraction(1, 2)
        self.check(1260, 300, [
            (299 + third, 300 + half, fractions.Fraction(2, 3)),
            (1259 + half, 1260 + third, third),
            (299 + half, 1260 + third, fractions.Fraction(5, 6)),
            (1000 + third, 1740 + half, 480),
            (1000 + third, 1739 + half, fractions.Fraction(959, 2)),
            (1439 + half, 1440 + half, 1),
            (1300 + third, 1300 + third, 0)])
        self.check(60, 240, [
            (59 + half, 60 + third, third),
            (239 + third, 240 + half, fractions.Fraction(2, 3)),
            (60 + third, 239 + third, 179)])

    def test_no_time_has_no_dark(self):
        for first in (0, 299, 300, 1260, 1440, fractions.Fraction(7, 3), fractions.Fraction(9999, 7)):
            self.check(1260, 300, [(first, first, 0)])

    def test_stretches_over_several_midnights(self):
        self.check(1260, 300, [(1000, 1000 + 1440 * 3, 480 * 3), (1300, 1300 + 1440 * 4, 480 * 4),
                               (1439, 2881, 482), (1200, 4400, 480 + 480 + 260)])
        self.check(60, 240, [(1000, 1000 + 1440 * 3, 180 * 3), (100, 4400, 140 + 180 + 180 + 20)])

    def test_two_stretches_that_touch_add_up(self):
        chance = random.Random(7)
        for _ in range(300):
            race = race_of(chance.randint(0, 1439), chance.randint(0, 1439))
            times = sorted(fractions.Fraction(chance.randint(0, 59994), chance.randint(6, 9)) for _ in range(3))
            first, middle, last = [pair(time) for time in times]
            parts = number(dark_part(race, first, middle)) + number(dark_part(race, middle, last))
            self.assertEqual(dark_part(race, first, last), pair(parts))

    def test_a_whole_day_has_the_minutes_from_dusk_to_dawn(self):
        for dusk, dawn in itertools.product((0, 1, 300, 719, 720, 1260, 1439), repeat=2):
            minutes = dawn - dusk if dusk <= dawn else dawn + 1440 - dusk
            for first in (0, 1, 299, 300, 720, 1260, 1439, 1440, 5000, fractions.Fraction(22, 7)):
                self.check(dusk, dawn, [(first, first + 1440, minutes)])

    def test_many_against_stretch_by_stretch(self):
        chance = random.Random(8)
        edges = [0, 1, 60, 300, 720, 1260, 1438, 1439]
        for _ in range(400):
            dusk, dawn = chance.choice(edges), chance.choice(edges + [chance.randint(0, 1439)])
            q = chance.randint(1, 12)
            near = [day * 1440 + edge for day in range(7) for edge in (dusk, dawn)] + [chance.randint(0, 9000)]
            times = sorted(abs(chance.choice(near) + fractions.Fraction(chance.randint(-2 * q, 2 * q), q))
                           for _ in range(2))
            self.check(dusk, dawn, [(times[0], times[1], known_dark(dusk, dawn, times[0], times[1]))])


class Flights(unittest.TestCase):
    def check(self, race, rows):
        for time, told in rows:
            with self.subTest(race=race, time=time):
                self.assertEqual(flight(race, pair(time)), pair(told))

    def test_without_dark(self):
        self.check(race_of(0, 0), [
            (360, 0), (361, 1), (400, 40), (900, 540), (9999, 9639),
            (fractions.Fraction(721, 2), fractions.Fraction(1, 2)),
            (fractions.Fraction(1204, 3), fractions.Fraction(124, 3))])

    def test_a_time_equal_to_the_start(self):
        for dusk, dawn in [(0, 0), (1260, 300), (300, 400), (360, 361), (359, 360), (0, 1439)]:
            self.check(race_of(dusk, dawn), [(360, 0)])

    def test_with_dark_behind_the_start(self):
        self.check(race_of(1260, 300), [
            (400, 40), (1260, 900), (1261, 900), (1440, 900), (1740, 900), (1741, 901),
            (fractions.Fraction(2519, 2), fractions.Fraction(1799, 2)),
            (fractions.Fraction(2521, 2), 900), (2699, 1859), (2700, 1860),
            (3000, 1860), (3180, 1860), (3181, 1861)])

    def test_let_go_in_the_dark(self):
        self.check(race_of(1260, 300, start=100), [
            (100, 0), (101, 0), (299, 0), (300, 0), (301, 1), (400, 100), (1260, 960), (1500, 960), (1741, 961),
            (fractions.Fraction(601, 2), fractions.Fraction(1, 2))])
        self.check(race_of(300, 1200), [(361, 0), (1200, 0), (1201, 1), (1740, 540), (2640, 540), (2641, 541)])

    def test_dark_ahead_of_the_start_does_not_matter(self):
        self.check(race_of(0, 360), [(361, 1), (900, 540)])
        self.check(race_of(100, 200), [(361, 1), (900, 540)])

    def test_many_against_stretch_by_stretch(self):
        chance = random.Random(9)
        for _ in range(300):
            dusk, dawn, start = chance.randint(0, 1439), chance.randint(0, 1439), chance.randint(0, 9000)
            time = start + fractions.Fraction(chance.randint(0, 40000), chance.randint(1, 11))
            told = time - start - known_dark(dusk, dawn, fractions.Fraction(start), time)
            self.check(race_of(dusk, dawn, start, 9999), [(time, told)])


class Speeds(unittest.TestCase):
    def check(self, club, clock, rows):
        for reading, told in rows:
            with self.subTest(clock=clock, reading=reading):
                self.assertEqual(speed(club, clock, reading), told)

    def test_the_example_of_the_interface(self):
        club = read_club(EXAMPLE)
        clock = (0, 0, 300, 900, 912)
        self.assertEqual(flight(club[2][0], (400, 1)), (40, 1))
        self.assertEqual(speed(club, clock, 402), (625, 4))

    def test_readings_without_a_true_time(self):
        club = club_of(race_of(0, 0, 300, 9999))
        self.check(club, (0, 0, 310, 900, 912), [
            (0, None), (309, None), (310, (2500, 1)), (912, (25, 36)), (913, None), (9999, None)])

    def test_a_true_time_ahead_of_the_start(self):
        club = club_of(race_of(0, 0))
        self.check(club, (0, 0, 300, 900, 900), [
            (300, None), (301, None), (359, None), (360, None), (361, (250000, 1))])
        # A clock that gains shows 370 at the start, and one that loses 350.
        self.check(club, (0, 0, 300, 900, 1000), [(360, None), (370, None), (371, (3062500, 9))])
        self.check(club, (0, 0, 300, 900, 800), [(349, None), (350, None), (351, (1562500, 9))])

    def test_a_true_time_at_the_close_and_behind_it(self):
        club = club_of(race_of(0, 0, 360, 860))
        self.check(club, (0, 0, 300, 900, 900), [(859, (250000, 249001)), (860, (1, 1)), (861, None), (900, None)])
        self.check(club, (0, 0, 300, 900, 1000), [(953, (3062500, 3059001)), (954, None)])
        self.check(club, (0, 0, 300, 900, 800), [(766, (390625, 389376)), (767, None), (800, None)])

    def test_a_flight_of_0(self):
        # Let go in the dark, and home in it.
        club = club_of(race_of(1260, 400))
        self.check(club, (0, 0, 300, 900, 900), [
            (360, None), (361, None), (399, None), (400, None), (401, (250000, 1)), (402, (62500, 1))])
        club = club_of(race_of(300, 1200))
        self.check(club, (0, 0, 300, 900, 900), [(360, None), (500, None), (900, None)])

    def test_a_flight_that_is_a_fraction(self):
        club = club_of(race_of(0, 0))
        # True times 361 1/2 and 360 1/2.
        self.check(club, (0, 0, 300, 600, 500), [(341, (1000000, 9))])
        self.check(club, (0, 0, 300, 900, 700), [(341, (1000000, 9)), (340, None)])
        self.check(club, (0, 0, 300, 301, 302), [(300, None), (301, None), (302, None)])
        self.check(club, (0, 0, 360, 361, 362), [(360, None), (361, (1000000, 1)), (362, (250000, 1))])

    def test_the_dark_of_the_flight_is_left_out(self):
        club = club_of(race_of(1260, 300, 1160, 9999))
        self.check(club, (0, 0, 1000, 5000, 5000), [
            (1260, (25, 1)), (1261, (25, 1)), (1740, (25, 1)), (1741, (250000, 10201)), (2140, (1, 1))])

    def test_the_race_and_the_loft_of_the_clock(self):
        race, other = race_of(0, 0), ("south", 0, 10, 100, 500, 0, 0)
        club = ((("hill", 0, 0), ("mill", 300, 401)), (), (race, other))
        for clock, told in [
                ((0, 0, 0, 900, 900), (2500, 1)), ((0, 1, 0, 900, 900), (1, 100)),
                ((1, 0, 0, 900, 900), (100, 270 * 270)), ((1, 1, 0, 900, 900), (242881, 270 * 270))]:
            with self.subTest(clock=clock):
                self.assertEqual(speed(club, clock, 370), pair(fractions.Fraction(*told)))

    def test_many_against_the_words(self):
        chance = random.Random(10)
        counted = 0
        for _ in range(600):
            start = chance.randint(0, 3000)
            close = start + chance.randint(1, 3000)
            dusk, dawn = chance.randint(0, 1439), chance.randint(0, 1439)
            begin = chance.randint(0, 3000)
            end, shown = begin + chance.randint(1, 4000), begin + chance.randint(1, 4000)
            reading = chance.randint(max(0, begin - 50), shown + 50)
            told = speed(club_of(race_of(dusk, dawn, start, close)), (0, 0, begin, end, shown), reading)
            known = None
            if begin <= reading <= shown:
                time = begin + fractions.Fraction((reading - begin) * (end - begin), shown - begin)
                if start <= time <= close:
                    flown = time - start - known_dark(dusk, dawn, fractions.Fraction(start), time)
                    if flown > 0:
                        known = pair(fractions.Fraction(250000) / flown ** 2)
                        counted += 1
            self.assertEqual(told, known)
        self.assertGreater(counted, 50)


class Interface(unittest.TestCase):
    def test_arguments_have_the_told_names(self):
        club = read_club(EXAMPLE)
        race = club[2][0]
        self.assertEqual(dark_part(race=race, first=(0, 1), last=(400, 1)), (300, 1))
        self.assertEqual(flight(race=race, time=(400, 1)), (40, 1))
        self.assertEqual(speed(club=club, clock=(0, 0, 300, 900, 912), reading=402), (625, 4))

    def test_they_are_fractions_in_lowest_terms(self):
        race = race_of(1260, 300)
        for told in [dark_part(race, (1, 3), (5, 6)), flight(race, (801, 2)), dark_part(race, (1, 2), (5, 2)),
                     speed(club_of(race), (0, 0, 300, 900, 912), 402)]:
            self.assertIs(type(told), tuple)
            self.assertEqual([type(part) for part in told], [int, int])
            self.assertEqual(told, pair(number(told)))

    def test_functions_are_defined_in_their_file(self):
        for function in (dark_part, flight, speed):
            with self.subTest(name=function.__name__):
                self.assertEqual(function.__module__, "homingtrue.flights")
                self.assertIs(getattr(homingtrue.flights, function.__name__), function)


if __name__ == "__main__":
    unittest.main()
