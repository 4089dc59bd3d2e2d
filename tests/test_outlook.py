"""[k1], [k2], [k3], [k4]: lists with arrivals, and what can still come."""

import fractions
import random
import unittest

import homingtrue.outlook
from homingtrue.clubs import read_club
from homingtrue.lists import place_in, race_list
from homingtrue.outlook import can_be_ahead, list_with, outlook, settled
from tests.known import (
    known_outlook, known_rows, known_speed, known_speeds, known_times, number, pair, situation)

EXAMPLE = read_club("loft hill at 0 0\nbird 7 of hill year 24\nbird 8 of hill year 25\n"
                    "race north from 300 400 start 360 close 900 dark 1260 to 300")
# The lofts hill and mill are 500 away, the loft dell is 1: three races without dark, with a dark at the
# start up to the minute 380, and in the dark as a whole.
CLUB = ((("hill", 0, 0), ("mill", 600, 800), ("dell", 300, 399)),
        ((7, 0, 24), (3, 0, 1), (12, 1, 25), (5, 1, 2), (100, 2, 0), (9, 2, 5)),
        (("north", 300, 400, 360, 900, 0, 0), ("south", 300, 400, 360, 900, 300, 380),
         ("east", 300, 400, 360, 900, 300, 900)))
CLOCKS = [(race, loft, 300, 1000, 1000) for race in range(3) for loft in range(3)]
RINGS = (3, 5, 7, 9, 12, 100)


def slips_of(race, **readings):
    """Slips of one race: `r7=370` for the ring 7 and the reading 370."""
    return [(race, int(name[1:]), reading) for name, reading in readings.items()]


class ListsWith(unittest.TestCase):
    def check(self, slips, arrivals, told, race=0, clocks=CLOCKS):
        with self.subTest(slips=slips, arrivals=arrivals):
            self.assertEqual(list_with(CLUB, clocks, slips, race, arrivals), told)

    def test_an_empty_row_gives_the_list(self):
        self.check([], (), [])
        slips = slips_of(0, r7=410, r3=370, r12=460, r5=None)
        self.check(slips, (), race_list(CLUB, CLOCKS, slips, 0))
        self.check(slips, (), [(1, 3, (2500, 1)), (2, 7, (100, 1)), (3, 12, (25, 1))])

    def test_arrivals_that_count(self):
        self.check([], ((7, (410, 1)),), [(1, 7, (100, 1))])
        slips = slips_of(0, r7=410)
        self.check(slips, ((3, (370, 1)),), [(1, 3, (2500, 1)), (2, 7, (100, 1))])
        self.check(slips, ((3, (460, 1)),), [(1, 7, (100, 1)), (2, 3, (25, 1))])
        self.check(slips, ((3, (370, 1)), (9, (361, 1)), (12, (460, 1))),
                   [(1, 3, (2500, 1)), (2, 7, (100, 1)), (3, 12, (25, 1)), (4, 9, (1, 1))])

    def test_times_that_are_fractions(self):
        self.check([], ((3, (721, 2)),), [(1, 3, (1000000, 1))])
        self.check(slips_of(0, r7=361), ((3, (1084, 3)), (12, (1082, 3)), (100, (723, 2))),
                   [(1, 12, (562500, 1)), (2, 7, (250000, 1)), (3, 3, (140625, 1)), (4, 100, (4, 9))])

    def test_arrivals_that_do_not_count(self):
        slips = slips_of(0, r7=410)
        rows = [(1, 7, (100, 1))]
        # Behind the close, and with a flight of 0.
        self.check(slips, ((3, (901, 1)),), rows)
        self.check(slips, ((3, (1801, 2)),), rows)
        self.check(slips, ((3, (360, 1)),), rows)
        self.check(slips, ((3, (900, 1)),), rows + [(2, 3, (625, 729))])
        self.check(slips, ((3, (360, 1)), (5, (410, 1)), (9, (901, 1))), [(1, 5, (100, 1)), (1, 7, (100, 1))])

    def test_arrivals_in_the_dark(self):
        self.check([], ((7, (380, 1)), (12, (370, 1))), [], race=1)
        self.check([], ((7, (381, 1)), (12, (761, 2))), [(1, 12, (1000000, 1)), (2, 7, (250000, 1))], race=1)
        self.check([], ((7, (400, 1)), (12, (900, 1))), [], race=2)

    def test_speeds_that_are_equal_to_one_of_the_list(self):
        slips = slips_of(0, r7=410, r9=361)
        self.check(slips, ((3, (410, 1)), (12, (410, 1))),
                   [(1, 3, (100, 1)), (1, 7, (100, 1)), (1, 12, (100, 1)), (4, 9, (1, 1))])
        self.check(slips, ((3, (860, 1)),), [(1, 7, (100, 1)), (2, 3, (1, 1)), (2, 9, (1, 1))])
        self.check(slips, ((100, (3601, 10)),), [(1, 7, (100, 1)), (1, 100, (100, 1)), (3, 9, (1, 1))])

    def test_an_arrival_of_a_bird_with_a_slip_that_does_not_count(self):
        slips = slips_of(0, r7=410, r3=None, r12=950)
        self.check(slips, ((3, (420, 1)), (12, (430, 1))),
                   [(1, 7, (100, 1)), (2, 3, (625, 9)), (3, 12, (2500, 49))])

    def test_a_loft_without_a_clock(self):
        self.check([], ((7, (410, 1)),), [(1, 7, (100, 1))], clocks=[])

    def test_many_against_the_words(self):
        chance = random.Random(31)
        for _ in range(400):
            club, clocks, slips, race, entrants, now = situation(chance)
            speeds = known_speeds(club, clocks, slips, race)
            arrivals = []
            for ring in entrants:
                if ring not in speeds and chance.randrange(4):
                    time = chance.choice(known_times(club, race, now) + [club[2][race][4] + 1])
                    arrivals.append((ring, pair(time)))
            told = list_with(club, clocks, slips, race, tuple(arrivals))
            for ring, time in arrivals:
                speeds[ring] = known_speed(club, race, ring, number(time))
            self.assertEqual(told, known_rows({ring: speed for ring, speed in speeds.items() if speed is not None}))


class CanBeAhead(unittest.TestCase):
    def check(self, race, ring, now, speed, told):
        with self.subTest(race=race, ring=ring, now=now, speed=speed):
            self.assertIs(can_be_ahead(CLUB, race, ring, now, speed), told)

    def test_a_flight_above_0_at_now(self):
        # At the minute 410 the speed is 100.
        self.check(0, 7, 410, (99, 1), True)
        self.check(0, 7, 410, (199, 2), True)
        self.check(0, 7, 410, (101, 1), False)
        self.check(0, 7, 410, (201, 2), False)
        self.check(0, 7, 361, (249999, 1), True)
        self.check(0, 7, 361, (250001, 1), False)

    def test_a_speed_that_is_equal(self):
        self.check(0, 7, 410, (100, 1), False)
        self.check(0, 12, 410, (100, 1), False)
        self.check(0, 7, 900, (625, 729), False)
        self.check(0, 100, 361, (1, 1), False)

    def test_the_way_of_the_bird_tells(self):
        self.check(0, 100, 410, (1, 2500), False)
        self.check(0, 100, 410, (1, 2501), True)
        self.check(0, 100, 410, (99, 1), False)

    def test_at_the_close(self):
        self.check(0, 7, 900, (624, 729), True)
        self.check(0, 7, 900, (626, 729), False)
        # In the dark up to the minute 380, there are 520 minutes of flight.
        self.check(1, 7, 900, (625, 676), False)
        self.check(1, 7, 900, (624, 676), True)

    def test_let_go_now(self):
        for speed in ((1, 1), (250000, 1), (10 ** 12, 1), (10 ** 30, 7)):
            self.check(0, 7, 360, speed, True)
            self.check(0, 100, 360, speed, True)

    def test_let_go_in_the_dark(self):
        # No flight up to the minute 380, so that any speed can still come.
        for now in (360, 361, 370, 379, 380):
            for speed in ((1, 1), (250000, 1), (10 ** 12, 1), (10 ** 30, 7)):
                self.check(1, 7, now, speed, True)
                self.check(1, 100, now, speed, True)
        self.check(1, 7, 381, (249999, 1), True)
        self.check(1, 7, 381, (250000, 1), False)
        self.check(1, 7, 381, (10 ** 12, 1), False)

    def test_a_flight_of_0_at_the_close(self):
        for now in (360, 500, 899, 900):
            self.check(2, 7, now, (1, 10 ** 9), False)
            self.check(2, 100, now, (1, 10 ** 9), False)

    def test_a_dark_that_ends_at_the_last_minute(self):
        race = ("north", 300, 400, 360, 900, 300, 899)
        club = (CLUB[0], CLUB[1], (race,))
        self.assertIs(can_be_ahead(club, 0, 7, 899, (10 ** 9, 1)), True)
        self.assertIs(can_be_ahead(club, 0, 7, 360, (10 ** 9, 1)), True)
        self.assertIs(can_be_ahead(club, 0, 7, 900, (10 ** 9, 1)), False)
        self.assertIs(can_be_ahead(club, 0, 7, 900, (249999, 1)), True)

    def test_a_dark_behind_now_does_not_matter(self):
        club = (CLUB[0], CLUB[1], (("north", 300, 400, 360, 900, 400, 500),))
        self.assertIs(can_be_ahead(club, 0, 7, 400, (156, 1)), True)
        self.assertIs(can_be_ahead(club, 0, 7, 400, (157, 1)), False)
        # It has flown 40 minutes all the while in which it is dark.
        self.assertIs(can_be_ahead(club, 0, 7, 500, (156, 1)), True)
        self.assertIs(can_be_ahead(club, 0, 7, 500, (625, 4)), False)
        self.assertIs(can_be_ahead(club, 0, 7, 501, (156, 1)), False)

    def test_many_against_many_arrivals(self):
        chance = random.Random(32)
        found = []
        for _ in range(1500):
            club, _, _, race, _, now = situation(chance)
            speeds = [known_speed(club, race, ring, now) for ring, _, _ in club[1]]
            speeds = [speed for speed in speeds if speed is not None]
            speed = chance.choice(speeds + [fractions.Fraction(1, 4), fractions.Fraction(25)])
            ring = chance.choice(club[1])[0]
            chances = [known_speed(club, race, ring, time) for time in known_times(club, race, now)]
            known = any(other is not None and other > speed for other in chances)
            found.append(known)
            self.assertIs(can_be_ahead(club, race, ring, now, pair(speed)), known)
        self.assertTrue(300 < sum(found) < 1200)


class Outlook(unittest.TestCase):
    def check(self, slips, entrants, now, told, race=0):
        with self.subTest(slips=slips, entrants=entrants, now=now, race=race):
            self.assertEqual(outlook(CLUB, CLOCKS, slips, race, entrants, now), told)
            self.assertEqual(settled(CLUB, CLOCKS, slips, race, entrants, now),
                             [ring for ring, least, greatest in told if greatest is not None and least == greatest])

    def test_the_example_of_the_interface(self):
        clocks = [(0, 0, 300, 900, 912)]
        slips = [(0, 7, 402)]
        self.assertEqual(outlook(EXAMPLE, clocks, slips, 0, (7, 8), 400), [(7, 1, 1), (8, 1, None)])
        self.assertEqual(outlook(EXAMPLE, clocks, slips, 0, (7, 8), 399), [(7, 1, 2), (8, 1, None)])
        self.assertEqual(settled(EXAMPLE, clocks, slips, 0, (7, 8), 400), [7])
        self.assertEqual(settled(EXAMPLE, clocks, slips, 0, (7, 8), 399), [])

    def test_no_entrants(self):
        self.check([], (), 360, [])

    def test_all_home(self):
        slips = slips_of(0, r7=410, r3=370, r12=410, r9=361)
        told = [(3, 1, 1), (7, 2, 2), (9, 4, 4), (12, 2, 2)]
        for now in (360, 410, 900):
            self.check(slips, (3, 7, 9, 12), now, told)

    def test_none_home(self):
        told = [(ring, 1, None) for ring in RINGS]
        for now in (360, 361, 500, 900):
            self.check([], RINGS, now, told)
            self.check([], RINGS, now, told, race=1)
        self.check([], (9,), 900, [(9, 1, None)])

    def test_none_home_and_none_can_come(self):
        for now in (360, 899, 900):
            self.check([], RINGS, now, [(ring, None, None) for ring in RINGS], race=2)

    def test_birds_that_are_out_can_pass_slower_ones_only(self):
        slips = slips_of(0, r7=370, r3=410, r12=460)
        # At the minute 400 a bird of the loft mill has at most 156 and 1/4.
        self.check(slips, (3, 5, 7, 12), 400, [(3, 2, 3), (5, 2, None), (7, 1, 1), (12, 3, 4)])
        self.check(slips, (3, 5, 7, 12), 369, [(3, 2, 3), (5, 1, None), (7, 1, 2), (12, 3, 4)])
        self.check(slips, (3, 5, 7, 12), 459, [(3, 2, 2), (5, 3, None), (7, 1, 1), (12, 3, 4)])
        self.check(slips, (3, 5, 7, 12), 461, [(3, 2, 2), (5, 4, None), (7, 1, 1), (12, 3, 3)])

    def test_a_speed_that_is_equal_does_not_pass_and_is_not_passed(self):
        slips = slips_of(0, r7=370, r3=410, r12=460)
        self.check(slips, (3, 5, 7, 12), 370, [(3, 2, 3), (5, 1, None), (7, 1, 1), (12, 3, 4)])
        self.check(slips, (3, 5, 7, 12), 410, [(3, 2, 2), (5, 2, None), (7, 1, 1), (12, 3, 4)])
        self.check(slips, (3, 5, 7, 12), 460, [(3, 2, 2), (5, 3, None), (7, 1, 1), (12, 3, 3)])

    def test_each_bird_that_is_out_counts_on_its_own(self):
        slips = slips_of(0, r7=410, r9=361)
        # The bird 100 has a short way: it passes only the bird 9, and not behind the minute 361.
        self.check(slips, RINGS, 409, [(3, 1, None), (5, 1, None), (7, 1, 4), (9, 2, 5), (12, 1, None), (100, 3, None)])
        self.check(slips, RINGS, 360, [(3, 1, None), (5, 1, None), (7, 1, 5), (9, 2, 6), (12, 1, None), (100, 1, None)])
        self.check(slips, (7, 9, 100), 361, [(7, 1, 1), (9, 2, 2), (100, 2, None)])

    def test_birds_of_one_speed(self):
        slips = slips_of(0, r7=410, r3=410, r12=410, r9=361)
        self.check(slips, (3, 5, 7, 9, 12), 409, [(3, 1, 2), (5, 1, None), (7, 1, 2), (9, 4, 5), (12, 1, 2)])
        self.check(slips, (3, 5, 7, 9, 12), 410, [(3, 1, 1), (5, 1, None), (7, 1, 1), (9, 4, 5), (12, 1, 1)])
        self.check(slips, (3, 5, 7, 9, 12), 411, [(3, 1, 1), (5, 4, None), (7, 1, 1), (9, 4, 5), (12, 1, 1)])
        self.check(slips, (3, 5, 7, 9, 12), 861, [(3, 1, 1), (5, 5, None), (7, 1, 1), (9, 4, 4), (12, 1, 1)])

    def test_birds_let_go_in_the_dark(self):
        slips = slips_of(1, r7=381, r12=382)
        for now in (360, 370, 380):
            self.check(slips, (3, 7, 12, 100), now, [(3, 1, None), (7, 1, 3), (12, 2, 4), (100, 1, None)], race=1)
        self.check(slips, (3, 7, 12, 100), 381, [(3, 1, None), (7, 1, 1), (12, 2, 3), (100, 3, None)], race=1)

    def test_a_bird_that_is_no_entrant_cannot_come(self):
        self.check(slips_of(0, r7=410), (7,), 360, [(7, 1, 1)])
        self.check(slips_of(0, r7=410), (7, 12), 360, [(7, 1, 2), (12, 1, None)])

    def test_a_slip_that_does_not_count_leaves_the_bird_out(self):
        slips = slips_of(0, r7=410, r3=None, r12=950, r5=360)
        self.check(slips, (3, 5, 7, 12), 409, [(3, 1, None), (5, 1, None), (7, 1, 4), (12, 1, None)])

    def test_a_bird_of_the_list_is_home_even_with_a_time_behind_now(self):
        slips = slips_of(0, r7=410, r3=800)
        self.check(slips, (3, 7, 12), 400, [(3, 2, 3), (7, 1, 2), (12, 1, None)])

    def test_other_races_do_not_matter(self):
        slips = slips_of(0, r7=410, r3=370) + slips_of(1, r12=381)
        self.check(slips, (3, 7), 500, [(3, 1, 1), (7, 2, 2)])
        self.check(slips, (3, 12), 500, [(3, 2, None), (12, 1, 1)], race=1)

    def test_all_of_the_greatest_club(self):
        birds = tuple((n + 1, n // 2, 0) for n in range(12))
        lofts = tuple(("abcdef"[n], n * 10, 0) for n in range(6))
        club = (lofts, birds, (("north", 0, 600, 0, 9999, 0, 0),))
        clocks = [(0, n, 0, 9999, 9999) for n in range(6)]
        entrants = tuple(range(1, 13))
        slips = [(0, n, 100) for n in range(1, 12, 2)]
        told = outlook(club, clocks, slips, 0, entrants, 100)
        # The loft 5 is the farthest: its bird 11 is the first, and no other bird of 100 minutes is faster.
        self.assertEqual(told, [(1, 6, 11), (2, 6, None), (3, 5, 9), (4, 5, None), (5, 4, 7), (6, 4, None),
                                (7, 3, 5), (8, 3, None), (9, 2, 3), (10, 2, None), (11, 1, 1), (12, 1, None)])
        self.assertEqual(settled(club, clocks, slips, 0, entrants, 100), [11])

    def test_many_against_the_words(self):
        chance = random.Random(33)
        kinds = {"home": 0, "open": 0, "out": 0, "behind": 0, "never": 0}
        for _ in range(700):
            told = situation(chance)
            found = outlook(*told)
            self.assertEqual(found, known_outlook(*told))
            self.assertEqual(settled(*told), [ring for ring, least, greatest in found
                                              if greatest is not None and least == greatest])
            for _, least, greatest in found:
                kinds["home"] += greatest is not None
                kinds["open"] += greatest is not None and greatest > least
                kinds["out"] += greatest is None and least is not None
                kinds["behind"] += greatest is None and least is not None and least > 1
                kinds["never"] += least is None
        self.assertTrue(all(many > 100 for many in kinds.values()), kinds)

    def test_what_is_settled_stays(self):
        chance = random.Random(34)
        clocks = [(0, loft, 290, 390, 390) for loft in range(4)]
        many = 0
        for _ in range(400):
            club, _, slips, race, _, now = situation(chance)
            rows = race_list(club, clocks, slips, race)
            entrants = tuple(sorted(ring for ring, _, _ in club[1]))
            fixed = {}
            # The birds that are out come home, one behind the other, some together, at minutes up to the close.
            for ring in chance.sample(entrants, len(entrants)):
                if place_in(rows, ring) is None:
                    for other in settled(club, clocks, slips, race, entrants, now):
                        fixed[other] = place_in(race_list(club, clocks, slips, race), other)
                    now = chance.choice([now, chance.randint(now, club[2][race][4])])
                    slips = slips + [(race, ring, now)]
                    later = race_list(club, clocks, slips, race)
                    self.assertEqual({other: place_in(later, other) for other in fixed}, fixed)
                    stay = settled(club, clocks, slips, race, entrants, now)
                    self.assertEqual([other for other in fixed if other not in stay], [])
                    many += len(fixed)
        self.assertGreater(many, 500)


class Interface(unittest.TestCase):
    def test_arguments_have_the_told_names(self):
        told = {"club": EXAMPLE, "clocks": [(0, 0, 300, 900, 912)], "slips": [(0, 7, 402)], "race": 0}
        self.assertEqual(list_with(arrivals=(), **told), [(1, 7, (625, 4))])
        self.assertEqual(outlook(entrants=(7, 8), now=400, **told), [(7, 1, 1), (8, 1, None)])
        self.assertEqual(settled(entrants=(7, 8), now=400, **told), [7])
        self.assertIs(can_be_ahead(club=EXAMPLE, race=0, ring=8, now=400, speed=(625, 4)), False)

    def test_arguments_are_not_changed_and_lists_are_new(self):
        slips, clocks = slips_of(0, r7=410, r3=370), list(CLOCKS)
        for made in (lambda: list_with(CLUB, clocks, slips, 0, ((12, (400, 1)),)),
                     lambda: outlook(CLUB, clocks, slips, 0, RINGS, 400),
                     lambda: settled(CLUB, clocks, slips, 0, RINGS, 400)):
            first = made()
            self.assertIs(type(first), list)
            again = list(first)
            first.append(None)
            self.assertEqual(made(), again)
        self.assertEqual((slips, clocks), (slips_of(0, r7=410, r3=370), CLOCKS))

    def test_functions_are_defined_in_their_file(self):
        for function in (list_with, can_be_ahead, outlook, settled):
            with self.subTest(name=function.__name__):
                self.assertEqual(function.__module__, "homingtrue.outlook")
                self.assertIs(getattr(homingtrue.outlook, function.__name__), function)


if __name__ == "__main__":
    unittest.main()
