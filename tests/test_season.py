"""[t1], [t2], [t3]: the points of birds and lofts in a season."""

import fractions
import itertools
import random
import unittest

import homingtrue.season
from homingtrue.lists import race_list
from homingtrue.season import loft_list, race_points, season_list
from tests.known import pair

NOUGHT = (0, 1)
# Four races alike, without dark; two lofts in the same distance, and a third one without birds.
RACES = tuple((name, 300, 400, 360, 900, 0, 0) for name in ("n", "o", "p", "q"))
CLUB = ((("hill", 0, 0), ("mill", 600, 800), ("dell", 300, 399)),
        ((7, 0, 24), (3, 1, 1), (12, 0, 25), (5, 1, 2)), RACES)
CLOCKS = [(race, loft, 300, 900, 900) for race in range(4) for loft in range(2)]


def slips_of(*orders):
    """Slips of one race after the other: birds in a tuple come home together, one tuple behind the other."""
    slips = []
    for race, order in enumerate(orders):
        for at, rings in enumerate(order):
            slips += [(race, ring, 361 + at) for ring in rings]
    return slips


def ranked_known(totals):
    """Rows for a dict from numbers to fractions, by the words of [t2]."""
    rows = [(1 + len([1 for other in totals.values() if other > total]), number, pair(total))
            for number, total in totals.items()]
    return sorted(rows, key=lambda row: (-fractions.Fraction(*row[2]), row[1]))


def points_known(rows, scheme):
    """The points of a list, by the words of [t1]."""
    told = {}
    for place, ring, _ in rows:
        n = len([1 for other, _, _ in rows if other == place])
        share = [scheme[p - 1] if p <= len(scheme) else 0 for p in range(place, place + n)]
        told[ring] = fractions.Fraction(sum(share), n)
    return told


def season_known(club, clocks, slips, scheme, best):
    won = {}
    for race in range(len(club[2])):
        for ring, points in points_known(race_list(club, clocks, slips, race), scheme).items():
            won[ring] = won.get(ring, []) + [points]
    return {ring: sum(sorted(points, reverse=True)[:best], fractions.Fraction(0)) for ring, points in won.items()}


def lofts_known(club, clocks, slips, scheme, best):
    points = season_known(club, clocks, slips, scheme, best)
    return {loft: sum((points.get(ring, 0) for ring, home, _ in club[1] if home == loft), fractions.Fraction(0))
            for loft in range(len(club[0]))}


class Points(unittest.TestCase):
    def check(self, rows, scheme, told):
        with self.subTest(rows=rows, scheme=scheme):
            self.assertEqual(race_points(rows, scheme), told)

    def test_the_example_of_the_interface(self):
        self.check([(1, 4, (9, 1)), (2, 3, (4, 1)), (2, 8, (4, 1))], (10, 7), {4: (10, 1), 3: (7, 2), 8: (7, 2)})

    def test_places_of_their_own(self):
        rows = [(1, 4, (9, 1)), (2, 3, (4, 1)), (3, 8, (1, 2))]
        self.check(rows, (10, 7, 5), {4: (10, 1), 3: (7, 1), 8: (5, 1)})
        self.check(rows, (10, 7, 5, 3, 1), {4: (10, 1), 3: (7, 1), 8: (5, 1)})
        self.check(rows, (0, 100, 100), {4: NOUGHT, 3: (100, 1), 8: (100, 1)})

    def test_shared_places(self):
        rows = [(1, 4, (9, 1)), (1, 9, (9, 1)), (3, 3, (4, 1)), (3, 8, (4, 1)), (3, 11, (4, 1)), (6, 2, (1, 1))]
        self.check(rows, (10, 7, 5, 3, 1, 9),
                   {4: (17, 2), 9: (17, 2), 3: (3, 1), 8: (3, 1), 11: (3, 1), 2: (9, 1)})
        self.check(rows, (8, 6, 5, 5, 1, 0),
                   {4: (7, 1), 9: (7, 1), 3: (11, 3), 8: (11, 3), 11: (11, 3), 2: NOUGHT})

    def test_places_behind_the_end_of_the_scheme(self):
        rows = [(1, 4, (9, 1)), (1, 9, (9, 1)), (3, 3, (4, 1)), (3, 8, (4, 1)), (5, 2, (1, 1))]
        self.check(rows, (10,), {4: (5, 1), 9: (5, 1), 3: NOUGHT, 8: NOUGHT, 2: NOUGHT})
        self.check(rows, (10, 7, 5), {4: (17, 2), 9: (17, 2), 3: (5, 2), 8: (5, 2), 2: NOUGHT})
        self.check(rows, (10, 7, 5, 4), {4: (17, 2), 9: (17, 2), 3: (9, 2), 8: (9, 2), 2: NOUGHT})

    def test_an_empty_list_and_an_empty_scheme(self):
        self.check([], (10, 7), {})
        self.check([], (), {})
        self.check([(1, 4, (9, 1)), (2, 3, (4, 1)), (2, 8, (4, 1))], (), {4: NOUGHT, 3: NOUGHT, 8: NOUGHT})

    def test_the_longest_scheme_and_the_longest_list(self):
        scheme = tuple(range(100, 88, -1))
        apart = [(n + 1, 20 - n, (100 - n, 1)) for n in range(12)]
        self.check(apart, scheme, {20 - n: (100 - n, 1) for n in range(12)})
        same = [(1, n + 1, (5, 1)) for n in range(12)]
        self.check(same, scheme, {n + 1: (189, 2) for n in range(12)})
        self.check(same, (100,), {n + 1: (25, 3) for n in range(12)})

    def test_the_scheme_need_not_fall(self):
        self.check([(1, 4, (9, 1)), (2, 3, (4, 1)), (2, 8, (4, 1))], (0, 1, 100), {4: NOUGHT, 3: (101, 2), 8: (101, 2)})

    def test_the_dict_is_new(self):
        rows = [(1, 4, (9, 1))]
        told = race_points(rows, (3,))
        self.assertIs(type(told), dict)
        told[9] = NOUGHT
        self.assertEqual(race_points(rows, (3,)), {4: (3, 1)})
        self.assertEqual(rows, [(1, 4, (9, 1))])


class Season(unittest.TestCase):
    def check(self, slips, scheme, best, told, club=CLUB, clocks=CLOCKS):
        with self.subTest(slips=slips, scheme=scheme, best=best):
            self.assertEqual(season_list(club, clocks, slips, scheme, best), told)

    def test_one_race(self):
        slips = slips_of([(7,), (3, 12), (5,)])
        self.check(slips, (10, 6, 2, 1), 1, [(1, 7, (10, 1)), (2, 3, (4, 1)), (2, 12, (4, 1)), (4, 5, (1, 1))])
        self.check(slips, (10, 6, 2, 1), 4, [(1, 7, (10, 1)), (2, 3, (4, 1)), (2, 12, (4, 1)), (4, 5, (1, 1))])

    def test_the_sum_of_several_races(self):
        slips = slips_of([(7,), (3,)], [(3,), (7,)], [(3, 7, 12)], [(12,)])
        self.check(slips, (10, 6), 4, [(1, 3, (64, 3)), (1, 7, (64, 3)), (3, 12, (46, 3))])

    def test_more_races_than_best(self):
        slips = slips_of([(7,), (3,), (12,)], [(3,), (7,)], [(12, 3), (7,)], [(12,), (7,)])
        scheme = (10, 5, 1)
        self.check(slips, scheme, 4, [(1, 3, (45, 2)), (2, 7, (21, 1)), (3, 12, (37, 2))])
        self.check(slips, scheme, 3, [(1, 3, (45, 2)), (2, 7, (20, 1)), (3, 12, (37, 2))])
        self.check(slips, scheme, 2, [(1, 3, (35, 2)), (1, 12, (35, 2)), (3, 7, (15, 1))])
        self.check(slips, scheme, 1, [(1, 3, (10, 1)), (1, 7, (10, 1)), (1, 12, (10, 1))])

    def test_the_greatest_points_count_wherever_they_stand(self):
        # 1/2 is more than 1/3: neither the numerators nor the denominators tell it.
        slips = slips_of([(7, 3, 12)], [(7, 3)], [(5,), (7,)])
        self.check(slips, (1,), 1, [(1, 5, (1, 1)), (2, 3, (1, 2)), (2, 7, (1, 2)), (4, 12, (1, 3))])
        self.check(slips, (1,), 2, [(1, 5, (1, 1)), (2, 3, (5, 6)), (2, 7, (5, 6)), (4, 12, (1, 3))])
        for orders in itertools.permutations([[(7,)], [(3,), (7,)], [(3,), (5,), (7,)], [(3, 7)]]):
            self.check([slip for slip in slips_of(*orders) if slip[1] == 7], (9,), 2, [(1, 7, (18, 1))])

    def test_birds_that_are_in_no_list(self):
        self.check([], (10, 6), 2, [])
        self.check(slips_of([(7,)]), (10, 6), 2, [(1, 7, (10, 1))])
        self.check([(0, 7, 361), (0, 3, 360), (0, 12, 361), (0, 12, None), (1, 5, 300)], (10, 6), 2, [(1, 7, (10, 1))])

    def test_birds_in_a_list_without_points(self):
        self.check(slips_of([(7,), (3,)]), (10,), 2, [(1, 7, (10, 1)), (2, 3, NOUGHT)])
        self.check(slips_of([(7,), (3,)]), (), 2, [(1, 3, NOUGHT), (1, 7, NOUGHT)])
        self.check(slips_of([(7,), (3,), (12,)]), (10,), 2, [(1, 7, (10, 1)), (2, 3, NOUGHT), (2, 12, NOUGHT)])

    def test_slips_and_clocks_told_again(self):
        slips = slips_of([(7,), (3,)]) + [(0, 7, 400)]
        self.check(slips, (10, 6), 2, [(1, 3, (10, 1)), (2, 7, (6, 1))])
        self.check(slips, (10, 6), 2, [(1, 7, (10, 1)), (2, 3, (6, 1))],
                   clocks=CLOCKS + [(0, 0, 300, 900, 1200), (0, 1, 300, 900, 700)])

    def test_a_club_with_fewer_birds_than_races(self):
        club = (CLUB[0], ((7, 0, 24),), RACES)
        slips = slips_of([], [], [(7,)], [(7,)])
        self.check(slips, (10, 6), 1, [(1, 7, (10, 1))], club=club)
        self.check(slips, (10, 6), 2, [(1, 7, (20, 1))], club=club)

    def test_a_club_without_races(self):
        self.check([], (10,), 1, [], club=(CLUB[0], CLUB[1], ()), clocks=[])


class Lofts(unittest.TestCase):
    def check(self, slips, scheme, best, told, club=CLUB):
        with self.subTest(slips=slips, scheme=scheme, best=best):
            self.assertEqual(loft_list(club, CLOCKS, slips, scheme, best), told)

    def test_each_loft_has_a_row(self):
        self.check([], (10, 6), 2, [(1, 0, NOUGHT), (1, 1, NOUGHT), (1, 2, NOUGHT)])
        self.check(slips_of([(5,)]), (10, 6), 2, [(1, 1, (10, 1)), (2, 0, NOUGHT), (2, 2, NOUGHT)])

    def test_the_points_of_a_loft_are_the_sum_of_its_birds(self):
        slips = slips_of([(7,), (3, 12), (5,)])
        self.check(slips, (10, 6, 2, 1), 1, [(1, 0, (14, 1)), (2, 1, (5, 1)), (3, 2, NOUGHT)])
        self.check(slips_of([(3,), (7, 12), (5,)]), (10, 3, 2, 1), 1, [(1, 1, (11, 1)), (2, 0, (5, 1)), (3, 2, NOUGHT)])

    def test_the_best_races_are_those_of_each_bird(self):
        slips = slips_of([(7,), (12,)], [(12,), (7,)], [(3,)], [(3,)])
        self.check(slips, (10, 6), 1, [(1, 0, (20, 1)), (2, 1, (10, 1)), (3, 2, NOUGHT)])
        self.check(slips, (10, 6), 2, [(1, 0, (32, 1)), (2, 1, (20, 1)), (3, 2, NOUGHT)])

    def test_lofts_of_the_same_points_by_their_numbers(self):
        self.check(slips_of([(3, 7)]), (10, 6), 2, [(1, 0, (8, 1)), (1, 1, (8, 1)), (3, 2, NOUGHT)])
        self.check(slips_of([(5,)], [(12,)]), (10, 6), 2, [(1, 0, (10, 1)), (1, 1, (10, 1)), (3, 2, NOUGHT)])

    def test_a_club_without_lofts(self):
        self.check([], (10,), 1, [], club=((), (), RACES))


class ManySeasons(unittest.TestCase):
    def test_many_against_the_words(self):
        chance = random.Random(12)
        for _ in range(250):
            rings = chance.sample(range(1, 1000), 8)
            birds = tuple((ring, chance.randrange(2), 0) for ring in rings)
            club = (CLUB[0], birds, RACES[:chance.randint(1, 4)])
            readings = [None, 360, 361, 362, 363, 364]
            slips = [(chance.randrange(len(club[2])), chance.choice(rings), chance.choice(readings))
                     for _ in range(chance.randint(0, 30))]
            scheme = tuple(chance.choice([0, 1, 5, 6, 7, 100]) for _ in range(chance.randint(0, 9)))
            best = chance.randint(1, 4)
            told = (season_list(club, CLOCKS, slips, scheme, best), loft_list(club, CLOCKS, slips, scheme, best))
            self.assertEqual(told, (ranked_known(season_known(club, CLOCKS, slips, scheme, best)),
                                    ranked_known(lofts_known(club, CLOCKS, slips, scheme, best))))
            for race in range(len(club[2])):
                rows = race_list(club, CLOCKS, slips, race)
                known = {ring: pair(points) for ring, points in points_known(rows, scheme).items()}
                self.assertEqual(race_points(rows, scheme), known)
                self.assertEqual(sum(points for points in points_known(rows, scheme).values()),
                                 sum(scheme[:len(rows)]))


class Interface(unittest.TestCase):
    def test_arguments_have_the_told_names(self):
        self.assertEqual(race_points(rows=[(1, 4, (9, 1))], scheme=(3,)), {4: (3, 1)})
        told = {"club": CLUB, "clocks": CLOCKS, "slips": [(0, 7, 361)], "scheme": (3,), "best": 1}
        self.assertEqual(season_list(**told), [(1, 7, (3, 1))])
        self.assertEqual(loft_list(**told), [(1, 0, (3, 1)), (2, 1, NOUGHT), (2, 2, NOUGHT)])

    def test_arguments_are_not_changed_and_lists_are_new(self):
        slips, clocks = slips_of([(7,), (3,)]), list(CLOCKS)
        for listed in (season_list, loft_list):
            first = listed(CLUB, clocks, slips, (3, 2), 1)
            self.assertIs(type(first), list)
            again = list(first)
            first.append(None)
            self.assertEqual(listed(CLUB, clocks, slips, (3, 2), 1), again)
        self.assertEqual((slips, clocks), (slips_of([(7,), (3,)]), CLOCKS))

    def test_the_kinds_of_values(self):
        for listed in (season_list, loft_list):
            for row in listed(CLUB, CLOCKS, slips_of([(7,), (3,)]), (3, 2), 1):
                self.assertEqual([type(part) for part in row + row[2]], [int, int, tuple, int, int])

    def test_functions_are_defined_in_their_file(self):
        for function in (race_points, season_list, loft_list):
            with self.subTest(name=function.__name__):
                self.assertEqual(function.__module__, "homingtrue.season")
                self.assertIs(getattr(homingtrue.season, function.__name__), function)


if __name__ == "__main__":
    unittest.main()
