"""[p1], [p2], [p3]: stakes, pools and what is paid from them."""

import fractions
import itertools
import random
import unittest

import homingtrue.pools
from homingtrue.pools import counting_stakes, payments, pool
from tests.known import known_rows, number

ROWS = [(1, 4, (9, 1)), (2, 3, (4, 1)), (2, 8, (4, 1))]


def known_stakes(stakes, race):
    """The dict from rings to the units that count in a race, by the words of [p1]."""
    last = {}
    for told, ring, units in stakes:
        if told == race:
            last[ring] = units
    return {ring: units for ring, units in last.items() if units > 0}


def known_payments(stakes, parts, race, rows):
    """What is paid in a race, by the words of [p2] and [p3]."""
    staked = known_stakes(stakes, race)
    runners = {ring: number(speed) for _, ring, speed in rows if ring in staked}
    if not runners:
        return sorted(staked.items())
    weights = {}
    for ring, speed in runners.items():
        place = 1 + len([1 for other in runners.values() if other > speed])
        n = len([1 for other in runners.values() if other == speed])
        weights[ring] = fractions.Fraction(sum((parts + (0,) * 20)[place - 1:place - 1 + n]), n)
    exact = {ring: sum(staked.values()) * weights[ring] / sum(weights.values()) for ring in runners}
    paid = {ring: int(exact[ring]) for ring in runners}
    turn = sorted(runners, key=lambda ring: (paid[ring] - exact[ring], -runners[ring], ring))
    for ring in turn[:sum(staked.values()) - sum(paid.values())]:
        paid[ring] += 1
    return [(ring, paid.get(ring, 0)) for ring in sorted(staked)]


class Stakes(unittest.TestCase):
    def check(self, stakes, told):
        with self.subTest(stakes=stakes):
            self.assertEqual(counting_stakes(stakes), told)

    def test_no_stakes(self):
        self.check([], [])

    def test_stakes_told_once(self):
        self.check([(0, 7, 1)], [(0, 7, 1)])
        self.check([(0, 7, 1000), (1, 3, 5)], [(0, 7, 1000), (1, 3, 5)])

    def test_a_stake_told_again(self):
        self.check([(0, 7, 10), (0, 7, 4)], [(0, 7, 4)])
        self.check([(0, 7, 4), (0, 7, 10), (0, 7, 5)], [(0, 7, 5)])
        self.check([(0, 7, 4), (0, 3, 1), (1, 7, 2), (0, 7, 6), (1, 7, 3)], [(0, 3, 1), (0, 7, 6), (1, 7, 3)])

    def test_a_stake_of_0_takes_the_stake_away(self):
        self.check([(0, 7, 0)], [])
        self.check([(0, 7, 10), (0, 7, 0)], [])
        self.check([(0, 7, 10), (0, 3, 2), (0, 7, 0)], [(0, 3, 2)])
        self.check([(0, 7, 10), (0, 7, 0), (0, 7, 3)], [(0, 7, 3)])
        self.check([(0, 7, 0), (0, 7, 3)], [(0, 7, 3)])

    def test_a_stake_of_0_does_not_touch_other_races_or_birds(self):
        self.check([(0, 7, 10), (1, 7, 10), (0, 8, 10), (0, 7, 0)], [(0, 8, 10), (1, 7, 10)])

    def test_the_list_is_sorted_by_race_then_by_ring_whatever_the_order(self):
        stakes = [(0, 7, 9), (0, 30, 8), (1, 1, 7), (1, 10, 6), (3, 2, 5)]
        for order in itertools.permutations(stakes):
            self.assertEqual(counting_stakes(list(order)), stakes)


class Pools(unittest.TestCase):
    def test_a_pool_is_the_sum_of_the_stakes_that_count(self):
        stakes = [(0, 7, 10), (0, 3, 5), (1, 7, 100), (0, 7, 4), (0, 9, 8), (0, 9, 0)]
        self.assertEqual([pool(stakes, race) for race in range(3)], [9, 100, 0])

    def test_a_pool_without_stakes(self):
        self.assertEqual(pool([], 0), 0)
        self.assertEqual(pool([(0, 7, 10), (0, 7, 0)], 0), 0)
        self.assertEqual(pool([(1, 7, 10)], 0), 0)


class Payments(unittest.TestCase):
    def check(self, stakes, parts, rows, told, race=0):
        with self.subTest(stakes=stakes, parts=parts, rows=rows):
            paid = payments(stakes, parts, race, rows)
            self.assertEqual(paid, told)
            self.assertEqual(sum(units for _, units in paid), pool(stakes, race))
            self.assertEqual(paid, known_payments(stakes, parts, race, rows))

    def test_the_example_of_the_interface(self):
        self.check([(0, 4, 10), (0, 3, 5), (0, 8, 5), (0, 9, 5)], (2, 1), ROWS, [(3, 4), (4, 17), (8, 4), (9, 0)])

    def test_one_runner_gets_all(self):
        self.check([(0, 3, 5), (0, 9, 7)], (1,), ROWS, [(3, 12), (9, 0)])
        self.check([(0, 3, 5), (0, 9, 7)], (3, 10, 2, 1, 1), ROWS, [(3, 12), (9, 0)])

    def test_places_are_those_among_the_runners(self):
        rows = [(1, 4, (9, 1)), (2, 5, (8, 1)), (3, 6, (7, 1)), (4, 7, (6, 1))]
        # Without the first two of the list, the third one is the first runner.
        self.check([(0, 6, 4), (0, 7, 5)], (2, 1), rows, [(6, 6), (7, 3)])
        self.check([(0, 5, 4), (0, 7, 5)], (2, 1, 9, 9), rows, [(5, 6), (7, 3)])

    def test_runners_of_one_place_share(self):
        self.check([(0, 4, 6), (0, 3, 6), (0, 8, 6)], (3, 2, 1), ROWS, [(3, 5), (4, 9), (8, 4)])
        self.check([(0, 3, 6), (0, 8, 6)], (5, 1), ROWS, [(3, 6), (8, 6)])
        self.check([(0, 3, 6), (0, 8, 6)], (7,), ROWS, [(3, 6), (8, 6)])
        rows = [(1, 2, (4, 1)), (1, 3, (4, 1)), (1, 8, (4, 1)), (4, 1, (1, 1))]
        self.check([(0, 2, 1), (0, 3, 7), (0, 8, 7), (0, 1, 5)], (3, 2, 1, 4), rows, [(1, 8), (2, 4), (3, 4), (8, 4)])

    def test_parts_need_not_fall(self):
        self.check([(0, 4, 6), (0, 3, 6), (0, 8, 8)], (1, 2, 7), ROWS, [(3, 9), (4, 2), (8, 9)])

    def test_more_runners_than_parts(self):
        rows = [(1, 4, (9, 1)), (2, 5, (8, 1)), (3, 6, (7, 1)), (4, 7, (6, 1))]
        stakes = [(0, 4, 3), (0, 5, 3), (0, 6, 3), (0, 7, 3)]
        self.check(stakes, (3, 1), rows, [(4, 9), (5, 3), (6, 0), (7, 0)])
        self.check(stakes, (1,), rows, [(4, 12), (5, 0), (6, 0), (7, 0)])
        # The two of the place 2 have half of the part for it, and nothing for the place 3.
        self.check([(0, 4, 3), (0, 3, 3), (0, 8, 3)], (2, 1), ROWS, [(3, 2), (4, 6), (8, 1)])

    def test_units_left_over_go_to_the_greatest_rests(self):
        rows = [(1, 4, (9, 1)), (2, 5, (8, 1)), (3, 6, (7, 1))]
        # 10 by 3, 2, 2: 4 and 2/7, 2 and 6/7, 2 and 6/7.
        self.check([(0, 4, 4), (0, 5, 3), (0, 6, 3)], (3, 2, 2), rows, [(4, 4), (5, 3), (6, 3)])
        # 8 by 3, 2, 2: 3 and 3/7, 2 and 2/7, 2 and 2/7.
        self.check([(0, 4, 4), (0, 5, 2), (0, 6, 2)], (3, 2, 2), rows, [(4, 4), (5, 2), (6, 2)])
        # 8 by 4, 1, 6: 2 and 10/11, 0 and 8/11, 4 and 4/11.
        self.check([(0, 4, 4), (0, 5, 2), (0, 6, 2)], (4, 1, 6), rows, [(4, 3), (5, 1), (6, 4)])
        # 5 by 1, 1, 6: 5/8, 5/8, 3 and 6/8.
        self.check([(0, 4, 1), (0, 5, 2), (0, 6, 2)], (1, 1, 6), rows, [(4, 1), (5, 0), (6, 4)])

    def test_rests_are_compared_as_fractions(self):
        rows = [(1, 3, (9, 1)), (1, 9, (9, 1)), (3, 5, (1, 1))]
        # 7 by 1, 1 and 10: 7/12, 7/12, 5 and 5/6.
        self.check([(0, 9, 3), (0, 3, 2), (0, 5, 2)], (1, 1, 10), rows, [(3, 1), (5, 6), (9, 0)])
        # 5 by 3/2, 3/2 and 9: 5/8, 5/8, 3 and 3/4.
        self.check([(0, 9, 1), (0, 3, 2), (0, 5, 2)], (1, 2, 9), rows, [(3, 1), (5, 4), (9, 0)])
        # 3 by 1, 3 and 2: 1/2, 1 and 1/2, 1.
        rows = [(1, 9, (9, 1)), (2, 3, (8, 1)), (3, 5, (1, 1))]
        self.check([(0, 9, 1), (0, 3, 1), (0, 5, 1)], (1, 3, 2), rows, [(3, 1), (5, 1), (9, 1)])

    def test_of_one_rest_the_greater_speed_goes_first(self):
        rows = [(1, 20, (9, 1)), (2, 10, (17, 2)), (3, 5, (1, 9))]
        stakes = [(0, 20, 1), (0, 10, 2), (0, 5, 1)]
        self.check(stakes, (1, 1, 1), rows, [(5, 1), (10, 1), (20, 2)])
        stakes = [(0, 20, 1), (0, 10, 2), (0, 5, 2)]
        self.check(stakes, (1, 1, 1), rows, [(5, 1), (10, 2), (20, 2)])

    def test_of_one_rest_and_one_speed_the_lesser_ring_goes_first(self):
        rows = [(1, 10, (9, 1)), (1, 20, (9, 1)), (1, 100, (9, 1))]
        self.check([(0, 100, 2), (0, 20, 1), (0, 10, 1)], (1,), rows, [(10, 2), (20, 1), (100, 1)])
        self.check([(0, 100, 2), (0, 20, 2), (0, 10, 1)], (1,), rows, [(10, 2), (20, 2), (100, 1)])

    def test_a_rest_goes_ahead_of_a_speed_and_a_speed_ahead_of_a_ring(self):
        rows = [(1, 9, (9, 1)), (2, 8, (4, 1)), (2, 7, (4, 1)), (4, 1, (1, 1))]
        stakes = [(0, 9, 5), (0, 8, 5), (0, 7, 0), (0, 1, 0)]
        # 10 by 5 and 1: 8 and 2/6, 1 and 4/6.
        self.check(stakes, (5, 1), rows, [(8, 2), (9, 8)])
        # 11 by 3, 1, 1, 1: 5 and 3/6, and three times 1 and 5/6.
        self.check([(0, 9, 2), (0, 8, 3), (0, 7, 3), (0, 1, 3)], (3, 1, 1, 1), rows, [(1, 2), (7, 2), (8, 2), (9, 5)])
        # 10 by 3, 1, 1, 1: 5, and three times 1 and 4/6.
        self.check([(0, 9, 2), (0, 8, 3), (0, 7, 3), (0, 1, 2)], (3, 1, 1, 1), rows, [(1, 1), (7, 2), (8, 2), (9, 5)])

    def test_without_runners_each_bird_gets_its_stake_back(self):
        stakes = [(0, 9, 5), (0, 2, 1000), (0, 30, 1), (1, 4, 3), (0, 1, 4), (0, 1, 0)]
        self.check(stakes, (2, 1), ROWS, [(2, 1000), (9, 5), (30, 1)])
        self.check(stakes, (2, 1), [], [(2, 1000), (9, 5), (30, 1)])
        self.check([(0, 4, 10), (0, 4, 0), (0, 2, 6)], (2, 1), ROWS, [(2, 6)])

    def test_a_bird_of_the_list_without_a_stake_is_no_runner(self):
        self.check([(0, 3, 5), (0, 9, 5)], (2, 1), ROWS, [(3, 10), (9, 0)])
        self.check([(0, 3, 5), (0, 4, 5), (0, 4, 0)], (2, 1), ROWS, [(3, 5)])
        self.check([(0, 3, 5), (1, 4, 5)], (2, 1), ROWS, [(3, 5)])

    def test_a_pool_without_stakes(self):
        self.check([], (2, 1), ROWS, [])
        self.check([], (2, 1), [], [])
        self.check([(1, 4, 5)], (2, 1), ROWS, [])
        self.check([(0, 4, 5), (0, 4, 0)], (2, 1), ROWS, [])

    def test_each_race_has_a_pool_of_its_own(self):
        stakes = [(0, 4, 10), (1, 4, 3), (1, 3, 3), (0, 3, 5), (1, 9, 1), (0, 3, 6)]
        self.check(stakes, (3, 1), ROWS, [(3, 4), (4, 12)])
        self.check(stakes, (3, 1), ROWS, [(3, 2), (4, 5), (9, 0)], race=1)
        self.check(stakes, (3, 1), ROWS, [], race=2)

    def test_a_great_pool(self):
        rows = [(n + 1, 100 - n, (50 - n, 1)) for n in range(12)]
        stakes = [(0, 100 - n, 1000 - n) for n in range(12)]
        # 11934 by five equal parts: 2386 and 4/5.
        paid = [(96, 2386), (97, 2387), (98, 2387), (99, 2387), (100, 2387)]
        self.check(stakes, (10, 10, 10, 10, 10), rows, [(ring, 0) for ring in range(89, 96)] + paid)

    def test_many_against_the_words(self):
        chance = random.Random(21)
        for _ in range(1500):
            rings = chance.sample(range(1, 1000), chance.randint(1, 12))
            speeds = {ring: fractions.Fraction(chance.randint(1, 4), chance.randint(1, 2))
                      for ring in rings if chance.randrange(5)}
            stakes = [(chance.choice([0, 0, 0, 1]), chance.choice(rings), chance.choice([0, 1, 2, 3, 10, 50, 1000]))
                      for _ in range(chance.randint(0, 20))]
            parts = tuple(chance.randint(1, 10) for _ in range(chance.randint(1, 5)))
            rows = known_rows(speeds)
            for race in range(2):
                paid = payments(stakes, parts, race, rows)
                self.assertEqual(paid, known_payments(stakes, parts, race, rows))
                self.assertEqual(sum(units for _, units in paid), pool(stakes, race))
                self.assertTrue(all(units >= 0 for _, units in paid))


class Interface(unittest.TestCase):
    def test_arguments_have_the_told_names(self):
        stakes = [(0, 4, 10), (0, 9, 5)]
        self.assertEqual(counting_stakes(stakes=stakes), stakes)
        self.assertEqual(pool(stakes=stakes, race=0), 15)
        self.assertEqual(payments(stakes=stakes, parts=(2, 1), race=0, rows=ROWS), [(4, 15), (9, 0)])

    def test_arguments_are_not_changed_and_lists_are_new(self):
        stakes, rows = [(0, 9, 5), (0, 4, 10), (0, 9, 4)], list(ROWS)
        for made in (lambda: counting_stakes(stakes), lambda: payments(stakes, (2, 1), 0, rows),
                     lambda: payments(stakes, (2, 1), 0, [])):
            first = made()
            self.assertIs(type(first), list)
            again = list(first)
            first.append(None)
            self.assertEqual(made(), again)
        self.assertEqual((stakes, rows), ([(0, 9, 5), (0, 4, 10), (0, 9, 4)], ROWS))

    def test_the_kinds_of_values(self):
        for row in payments([(0, 4, 10), (0, 9, 5)], (2, 1), 0, ROWS):
            self.assertEqual((type(row), [type(part) for part in row]), (tuple, [int, int]))
        self.assertIs(type(pool([(0, 4, 10)], 0)), int)

    def test_functions_are_defined_in_their_file(self):
        for function in (counting_stakes, pool, payments):
            with self.subTest(name=function.__name__):
                self.assertEqual(function.__module__, "homingtrue.pools")
                self.assertIs(getattr(homingtrue.pools, function.__name__), function)


if __name__ == "__main__":
    unittest.main()
