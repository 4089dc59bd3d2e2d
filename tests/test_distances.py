"""[d1]: the square distance."""

import unittest

import homingtrue.distances
from homingtrue.distances import square_distance

PLACES = [(0, 0), (3, 4), (-3, 4), (3, -4), (-3, -4), (300, 400), (1, 0), (0, -1),
          (9999, 9999), (-9999, -9999), (9999, -9999), (-9999, 9999), (12, -9998)]


def club_of(lofts, races):
    """A club with lofts and races at these places."""
    return (tuple(("a" * (n + 1), x, y) for n, (x, y) in enumerate(lofts)), (),
            tuple(("b" * (n + 1), x, y, 0, 1, 0, 0) for n, (x, y) in enumerate(races)))


def alone(loft, race):
    return square_distance(club_of([loft], [race]), 0, 0)


class Distances(unittest.TestCase):
    def test_ordinary_places(self):
        self.assertEqual(alone((0, 0), (300, 400)), 250000)
        self.assertEqual(alone((0, 0), (3, 4)), 25)
        self.assertEqual(alone((10, 20), (13, 16)), 25)
        self.assertEqual(alone((0, 0), (1, 1)), 2)
        self.assertEqual(alone((5, 5), (5, 6)), 1)
        self.assertEqual(alone((5, 5), (4, 5)), 1)
        self.assertEqual(alone((1, 2), (4, 10)), 73)

    def test_negative_coordinates(self):
        self.assertEqual(alone((-1, -2), (2, 2)), 25)
        self.assertEqual(alone((2, 2), (-1, -2)), 25)
        self.assertEqual(alone((-5, -5), (-8, -1)), 25)
        self.assertEqual(alone((-5, 7), (5, -7)), 100 + 196)
        self.assertEqual(alone((0, -9), (0, 9)), 324)

    def test_the_bounds(self):
        self.assertEqual(alone((-9999, -9999), (9999, 9999)), 2 * 19998 ** 2)
        self.assertEqual(alone((9999, -9999), (-9999, 9999)), 2 * 19998 ** 2)
        self.assertEqual(alone((9999, 0), (-9999, 0)), 19998 ** 2)
        self.assertEqual(alone((0, -9999), (0, 9999)), 19998 ** 2)

    def test_the_numbers_tell_the_race_and_the_loft(self):
        club = club_of(PLACES[:6], [(7, 9), (-20, 30), (50, -60), (9999, -9999)])
        for race, (x, y) in enumerate([(7, 9), (-20, 30), (50, -60), (9999, -9999)]):
            for loft, (a, b) in enumerate(PLACES[:6]):
                with self.subTest(race=race, loft=loft):
                    self.assertEqual(square_distance(club, race, loft), (x - a) ** 2 + (y - b) ** 2)

    def test_all_pairs_of_places(self):
        for one in PLACES:
            for other in PLACES:
                if one != other:
                    with self.subTest(one=one, other=other):
                        told = alone(one, other)
                        self.assertEqual(told, (one[0] - other[0]) ** 2 + (one[1] - other[1]) ** 2)
                        self.assertEqual(told, alone(other, one))
                        self.assertGreater(told, 0)
                        self.assertIs(type(told), int)


class Interface(unittest.TestCase):
    def test_arguments_have_the_told_names(self):
        self.assertEqual(square_distance(club=club_of([(0, 0)], [(1, 2)]), race=0, loft=0), 5)

    def test_the_function_is_defined_in_its_file(self):
        self.assertEqual(square_distance.__module__, "homingtrue.distances")
        self.assertIs(homingtrue.distances.square_distance, square_distance)


if __name__ == "__main__":
    unittest.main()
