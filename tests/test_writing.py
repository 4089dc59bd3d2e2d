"""[b4]: the normal text of a club."""

import random
import unittest

import homingtrue.writing
from homingtrue.clubs import read_club
from homingtrue.writing import write_club

NORTH = ("north", 300, 400, 360, 900, 1260, 300)


def some_club(chance):
    """A club with parts that a text can hold."""
    names = chance.sample(["a", "abcdefgh", "hill", "mill", "north", "south", "lofts", "x", "yy", "zzz"], 10)
    lofts = tuple((names[n], chance.randint(-9999, 0), chance.randint(-9999, 9999))
                  for n in range(chance.randint(1, 6)))
    rings = chance.sample(range(1, 1000), chance.randint(0, 12))
    birds = tuple((ring, chance.randrange(len(lofts)), chance.randint(0, 99)) for ring in rings)
    races = []
    for n in range(chance.randint(0, 4)):
        start = chance.randint(0, 9998)
        races.append((names[6 + n], chance.randint(1, 9999), chance.randint(-9999, 9999),
                      start, chance.randint(start + 1, 9999), chance.randint(0, 1439), chance.randint(0, 1439)))
    return (lofts, birds, tuple(races))


class Writing(unittest.TestCase):
    def test_the_club_of_the_example(self):
        self.assertEqual(
            write_club(((("hill", 0, 0),), ((7, 0, 24),), (NORTH,))),
            "loft hill at 0 0\n"
            "bird 7 of hill year 24\n"
            "race north from 300 400 start 360 close 900 dark 1260 to 300\n")

    def test_a_club_of_nothing(self):
        self.assertEqual(write_club(((), (), ())), "")

    def test_some_kinds_alone(self):
        self.assertEqual(write_club(((("hill", 1, 2),), (), ())), "loft hill at 1 2\n")
        self.assertEqual(write_club(((("hill", 1, 2),), ((9, 0, 0),), ())),
                         "loft hill at 1 2\nbird 9 of hill year 0\n")
        self.assertEqual(write_club(((), (), (NORTH,))),
                         "race north from 300 400 start 360 close 900 dark 1260 to 300\n")

    def test_several_of_each_kind(self):
        self.assertEqual(
            write_club(((("mill", 3, 4), ("hill", 1, 2)),
                        ((8, 1, 5), (7, 0, 24), (999, 1, 99)),
                        (("south", 5, 6, 0, 1, 0, 1439), NORTH))),
            "loft mill at 3 4\n"
            "loft hill at 1 2\n"
            "bird 8 of hill year 5\n"
            "bird 7 of mill year 24\n"
            "bird 999 of hill year 99\n"
            "race south from 5 6 start 0 close 1 dark 0 to 1439\n"
            "race north from 300 400 start 360 close 900 dark 1260 to 300\n")

    def test_negative_coordinates(self):
        self.assertEqual(
            write_club(((("hill", -1, -9999),), (), (("north", -5, 0, 0, 9999, 0, 0),))),
            "loft hill at -1 -9999\nrace north from -5 0 start 0 close 9999 dark 0 to 0\n")

    def test_another_writing_of_a_club_gives_the_normal_text(self):
        normal = ("loft hill at 0 -4\n"
                  "bird 7 of hill year 24\n"
                  "race north from -300 400 start 360 close 900 dark 1260 to 300\n")
        for text in [normal, normal[:-1], "\n  \n" + normal + "\n\n",
                     normal.replace(" ", "   "), normal.replace("\n", "  \n\n"),
                     normal.replace(" -", "-"),
                     "loft hill at0-4\nbird7of hill year24\n"
                     "race north from-300 400start360close900dark1260to300"]:
            with self.subTest(text=text):
                self.assertEqual(write_club(read_club(text)), normal)

    def test_reading_gives_the_club(self):
        chance = random.Random(4)
        for _ in range(300):
            club = some_club(chance)
            text = write_club(club)
            self.assertEqual(read_club(text), club)
            self.assertEqual(write_club(read_club(text)), text)

    def test_single_spaces_and_a_newline_behind_each_line(self):
        chance = random.Random(5)
        for _ in range(100):
            club = some_club(chance)
            text = write_club(club)
            lines = text.split("\n")
            self.assertEqual(lines.pop(), "")
            self.assertEqual(len(lines), len(club[0]) + len(club[1]) + len(club[2]))
            for line in lines:
                self.assertEqual(line, " ".join(line.split()))


class Interface(unittest.TestCase):
    def test_the_argument_has_the_told_name(self):
        self.assertEqual(write_club(club=((), (), ())), "")

    def test_the_text_is_a_string(self):
        self.assertIs(type(write_club(((), (), ()))), str)

    def test_the_function_is_defined_in_its_file(self):
        self.assertEqual(write_club.__module__, "homingtrue.writing")
        self.assertIs(homingtrue.writing.write_club, write_club)


if __name__ == "__main__":
    unittest.main()
