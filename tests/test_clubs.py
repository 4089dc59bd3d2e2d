"""[b1], [b3]: reading the texts of clubs; and finding what stands in a club."""

import random
import re
import unittest

import homingtrue.clubs
from homingtrue.clubs import bird_of, loft_named, race_named, read_club
from homingtrue.errors import ClubFault, NoSuchName, NoSuchRing
from homingtrue.tokens import tokens

HILL = "loft hill at 0 0"
MILL = "loft mill at -30 40"
SEVEN = "bird 7 of hill year 24"
EIGHT = "bird 8 of mill year 5"
NORTH = "race north from 300 400 start 360 close 900 dark 1260 to 300"
SOUTH = "race south from -5 -6 start 0 close 1 dark 0 to 1439"
FIXED = ["loft", "at", "bird", "of", "year", "race", "from", "start", "close", "dark", "to"]

# The lines of [b1] as they stand in the document.
LINES = [
    "loft NAME at NUMBER NUMBER",
    "bird RING of NAME year NUMBER",
    "race NAME from NUMBER NUMBER start MINUTE close MINUTE dark MINUTE to MINUTE"]


def text_of(*lines):
    return "\n".join(lines)


def fault_of(text):
    """The fault of a text as a tuple, None if it has none."""
    try:
        read_club(text)
    except ClubFault as fault:
        return (fault.line, fault.place, fault.word)
    return None


def begins(found, line):
    """Whether tokens are the beginning of the tokens of a line of [b1]."""
    pieces = line.split(" ")
    if len(found) > len(pieces):
        return False
    for (kind, string), piece in zip(found, pieces):
        if piece == "NAME":
            fits = kind == "word"
        elif piece.isupper():
            fits = kind == "number"
        else:
            fits = string == piece
        if not fits:
            return False
    return True


def form_fault(found, elder):
    """The fault of form of the tokens of a line, by the words of [b3]."""
    standing = LINES[elder:]
    for i in range(len(found)):
        if not any(begins(found[:i + 1], line) for line in standing):
            return (i, "unexpected")
    if not any(begins(found, line) and len(found) == len(line.split(" ")) for line in standing):
        return (len(found), "end")
    return None


def number_fault(found):
    told = [int(string) if kind == "number" else None for kind, string in found]
    if found[0][1] == "loft":
        ranges = [(3, -9999, 9999), (4, -9999, 9999)]
    elif found[0][1] == "bird":
        ranges = [(1, 1, 999), (5, 0, 99)]
    else:
        ranges = [(3, -9999, 9999), (4, -9999, 9999), (6, 0, 9999),
                  (8, max(0, told[6] + 1), 9999), (10, 0, 1439), (12, 0, 1439)]
    for place, low, high in ranges:
        if told[place] < low or told[place] > high:
            return (place, "number")
    return None


def known(text):
    """The club or the fault of a text, read in another way: by the words of [b3]."""
    lofts, birds, races = [], [], []
    elder = 0
    for line, string in enumerate(re.split(r"\n", text)):
        found = tokens(string)
        if not found:
            continue
        fault = form_fault(found, elder) or number_fault(found)
        if fault:
            return (line,) + fault
        words = [string for _, string in found]
        if words[0] == "bird":
            elder = 1
            homes = [at for at, loft in enumerate(lofts) if loft[0] == words[3]]
            if not homes:
                return (line, 3, "name")
            if int(words[1]) in [bird[0] for bird in birds]:
                return (line, 1, "ring")
            if len(birds) == 12:
                return (line, 0, "many")
            birds.append((int(words[1]), homes[0], int(words[5])))
            continue
        if words[1] in FIXED + [part[0] for part in lofts + races]:
            return (line, 1, "name")
        place = (int(words[3]), int(words[4]))
        if words[0] == "loft":
            if len(lofts) == 6:
                return (line, 0, "many")
            lofts.append((words[1],) + place)
        else:
            elder = 2
            if place in [loft[1:] for loft in lofts]:
                return (line, 3, "place")
            if len(races) == 4:
                return (line, 0, "many")
            races.append((words[1],) + place + tuple(int(words[at]) for at in (6, 8, 10, 12)))
    return (tuple(lofts), tuple(birds), tuple(races))


def greatest():
    """The lines of a club of the greatest size."""
    names = ["a", "b", "c", "d", "e", "f", "g", "h", "i", "j"]
    lofts = [f"loft {names[n]} at {n} {-n}" for n in range(6)]
    birds = [f"bird {n + 1} of {names[n // 2]} year {n}" for n in range(12)]
    races = [f"race {names[n + 6]} from 100 {n} start {n} close 900 dark 0 to 0" for n in range(4)]
    return lofts, birds, races


class Clubs(unittest.TestCase):
    def test_the_example_of_the_interface(self):
        self.assertEqual(
            read_club("loft hill at 0 0\nbird 7 of hill year 24\n"
                      "race north from 300 400 start 360 close 900 dark 1260 to 300"),
            ((("hill", 0, 0),), ((7, 0, 24),), (("north", 300, 400, 360, 900, 1260, 300),)))

    def test_no_line_at_all(self):
        for text in ("", "\n", " ", "\n\n\n", "  \n \n   "):
            with self.subTest(text=text):
                self.assertEqual(read_club(text), ((), (), ()))

    def test_lofts_alone(self):
        self.assertEqual(read_club(HILL), ((("hill", 0, 0),), (), ()))
        self.assertEqual(read_club(text_of(HILL, MILL)), ((("hill", 0, 0), ("mill", -30, 40)), (), ()))

    def test_lofts_and_birds_without_races(self):
        self.assertEqual(
            read_club(text_of(HILL, MILL, EIGHT, SEVEN)),
            ((("hill", 0, 0), ("mill", -30, 40)), ((8, 1, 5), (7, 0, 24)), ()))

    def test_races_without_birds_and_without_lofts(self):
        north = ("north", 300, 400, 360, 900, 1260, 300)
        self.assertEqual(read_club(text_of(HILL, NORTH)), ((("hill", 0, 0),), (), (north,)))
        self.assertEqual(read_club(NORTH), ((), (), (north,)))

    def test_several_of_each_kind_in_their_order(self):
        self.assertEqual(
            read_club(text_of(MILL, HILL, EIGHT, SEVEN, "bird 1 of hill year 0", SOUTH, NORTH)),
            ((("mill", -30, 40), ("hill", 0, 0)),
             ((8, 0, 5), (7, 1, 24), (1, 1, 0)),
             (("south", -5, -6, 0, 1, 0, 1439), ("north", 300, 400, 360, 900, 1260, 300))))

    def test_the_greatest_size(self):
        lofts, birds, races = greatest()
        club = read_club(text_of(*lofts, *birds, *races))
        self.assertEqual(club[0], tuple(("abcdef"[n], n, -n) for n in range(6)))
        self.assertEqual(club[1], tuple((n + 1, n // 2, n) for n in range(12)))
        self.assertEqual(club[2], tuple(("ghij"[n], 100, n, n, 900, 0, 0) for n in range(4)))

    def test_numbers_at_their_bounds(self):
        for line, told in [
                ("loft a at -9999 9999", ((("a", -9999, 9999),), (), ())),
                ("loft a at 9999 -9999", ((("a", 9999, -9999),), (), ())),
                ("race a from -9999 9999 start 0 close 1 dark 0 to 0",
                 ((), (), (("a", -9999, 9999, 0, 1, 0, 0),))),
                ("race a from 9999 -9999 start 9998 close 9999 dark 1439 to 1439",
                 ((), (), (("a", 9999, -9999, 9998, 9999, 1439, 1439),)))]:
            with self.subTest(line=line):
                self.assertEqual(read_club(line), told)
        self.assertEqual(read_club(text_of(HILL, "bird 1 of hill year 0", "bird 999 of hill year 99"))[1],
                         ((1, 0, 0), (999, 0, 99)))

    def test_blank_lines_and_spaces_are_passed_over(self):
        plain = read_club(text_of(HILL, SEVEN, NORTH))
        for text in [
                text_of("", HILL, "", "   ", SEVEN, "", NORTH, "", ""),
                text_of(HILL, SEVEN, NORTH) + "\n",
                text_of("  loft   hill at 0   0  ", " bird 7 of hill year 24", NORTH + "   ")]:
            with self.subTest(text=text):
                self.assertEqual(read_club(text), plain)

    def test_tokens_that_touch_are_tokens(self):
        self.assertEqual(read_club("loft hill at 0-30")[0], (("hill", 0, -30),))
        self.assertEqual(read_club("loft hill at-7-30")[0], (("hill", -7, -30),))
        self.assertEqual(
            read_club(text_of("loft hill at0 0", "bird7of hill year24",
                              "race north from300-400start360close900dark1260to300")),
            ((("hill", 0, 0),), ((7, 0, 24),), (("north", 300, -400, 360, 900, 1260, 300),)))

    def test_lofts_may_share_a_place_and_races_too(self):
        self.assertEqual(read_club(text_of(HILL, "loft mill at 0 0"))[0], (("hill", 0, 0), ("mill", 0, 0)))
        self.assertEqual(fault_of(text_of(HILL, NORTH, NORTH.replace("north", "east"))), None)

    def test_names_are_any_other_words(self):
        for name in ["a", "abcdefgh", "lofts", "birds", "name", "number", "ring", "minute", "on", "ofx", "years"]:
            with self.subTest(name=name):
                self.assertEqual(read_club(f"loft {name} at 1 2")[0], ((name, 1, 2),))
                self.assertEqual(read_club(NORTH.replace("north", name))[2][0][0], name)

    def test_the_parts_are_tuples(self):
        club = read_club(text_of(HILL, SEVEN, NORTH))
        self.assertEqual([type(part) for part in club], [tuple] * 3)
        self.assertEqual([type(part[0]) for part in club], [tuple] * 3)
        self.assertEqual([[type(x) for x in part[0]] for part in club],
                         [[str, int, int], [int] * 3, [str] + [int] * 6])


class Faults(unittest.TestCase):
    def check(self, rows):
        for text, told in rows:
            with self.subTest(text=text):
                self.assertEqual(fault_of(text), told)

    def test_the_first_token_of_no_line(self):
        self.check([
            ("hill", (0, 0, "unexpected")),
            ("lofts hill at 0 0", (0, 0, "unexpected")),
            ("7", (0, 0, "unexpected")),
            ("-", (0, 0, "unexpected")),
            ("#", (0, 0, "unexpected")),
            ("Loft hill at 0 0", (0, 0, "unexpected")),
            ("NAME", (0, 0, "unexpected")),
            ("at 0 0", (0, 0, "unexpected")),
            (text_of(HILL, "hill"), (1, 0, "unexpected")),
        ])

    def test_unexpected_tokens_of_a_loft(self):
        self.check([
            ("loft 7 at 0 0", (0, 1, "unexpected")),
            ("loft abcdefghi at 0 0", (0, 1, "unexpected")),
            ("loft Hill at 0 0", (0, 1, "unexpected")),
            ("loft NAME at 0 0", (0, 1, "unexpected")),
            ("loft hill to 0 0", (0, 2, "unexpected")),
            ("loft hill 0 0", (0, 2, "unexpected")),
            ("loft hillat 0 0", (0, 2, "unexpected")),
            ("loft hill at zero 0", (0, 3, "unexpected")),
            ("loft hill at 01 0", (0, 3, "unexpected")),
            ("loft hill at 10000 0", (0, 3, "unexpected")),
            ("loft hill at - 1", (0, 3, "unexpected")),
            ("loft hill at 0 -0", (0, 4, "unexpected")),
            ("loft hill at 0, 0", (0, 4, "unexpected")),
            ("loft hill at 0 at", (0, 4, "unexpected")),
        ])

    def test_unexpected_tokens_of_a_bird(self):
        self.check([
            (text_of(HILL, "bird seven of hill year 24"), (1, 1, "unexpected")),
            (text_of(HILL, "bird 007 of hill year 24"), (1, 1, "unexpected")),
            (text_of(HILL, "bird 7 at hill year 24"), (1, 2, "unexpected")),
            (text_of(HILL, "bird 7 hill year 24"), (1, 2, "unexpected")),
            (text_of(HILL, "bird 7 of 0 year 24"), (1, 3, "unexpected")),
            (text_of(HILL, "bird 7 of hill 24"), (1, 4, "unexpected")),
            (text_of(HILL, "bird 7 of hill yea 24"), (1, 4, "unexpected")),
            (text_of(HILL, "bird 7 of hill year old"), (1, 5, "unexpected")),
            (text_of(HILL, "bird 7 of hill year 024"), (1, 5, "unexpected")),
        ])

    def test_unexpected_tokens_of_a_race(self):
        words = NORTH.split(" ")
        for place in range(13):
            for wrong in ["#", "NAME", "x" if place != 1 else "5"]:
                changed = words[:place] + [wrong] + words[place + 1:]
                with self.subTest(place=place, wrong=wrong):
                    self.assertEqual(fault_of(text_of(HILL, "", " ".join(changed))), (2, place, "unexpected"))

    def test_any_words_in_the_places_of_names_and_any_numbers_have_the_form(self):
        self.check([
            ("loft loft at x", (0, 3, "unexpected")),
            ("bird -7 of nobody year x", (0, 5, "unexpected")),
            ("race to from 0 0 start -1 close -1 dark 9999 to x", (0, 12, "unexpected")),
        ])

    def test_tokens_too_many(self):
        self.check([
            (HILL + " 0", (0, 5, "unexpected")),
            (HILL + " at", (0, 5, "unexpected")),
            (HILL + " -", (0, 5, "unexpected")),
            (HILL + " " + HILL, (0, 5, "unexpected")),
            (text_of(HILL, SEVEN + " x"), (1, 6, "unexpected")),
            (NORTH + " 1", (0, 13, "unexpected")),
            (NORTH + " 1 2 3", (0, 13, "unexpected")),
        ])

    def test_lines_that_break_off(self):
        for whole in (HILL, SEVEN, NORTH):
            words = whole.split(" ")
            for many in range(1, len(words)):
                line = " ".join(words[:many])
                with self.subTest(line=line):
                    self.assertEqual(fault_of(line), (0, many, "end"))
                    self.assertEqual(fault_of(text_of("", line + "  ", "", NORTH)), (1, many, "end"))

    def test_lines_of_an_elder_kind_behind_a_later_one(self):
        self.check([
            (text_of(HILL, SEVEN, MILL), (2, 0, "unexpected")),
            (text_of(HILL, NORTH, MILL), (2, 0, "unexpected")),
            (text_of(HILL, NORTH, SEVEN), (2, 0, "unexpected")),
            (text_of(HILL, SEVEN, NORTH, MILL), (3, 0, "unexpected")),
            (text_of(HILL, SEVEN, NORTH, "bird 8 of hill year 1"), (3, 0, "unexpected")),
            (text_of(HILL, SEVEN, "", "loft"), (3, 0, "unexpected")),
            (text_of(HILL, NORTH, "bird"), (2, 0, "unexpected")),
        ])

    def test_numbers_out_of_their_ranges(self):
        north = "race north from 3 4 start {} close {} dark {} to {}"
        self.check([
            (text_of(HILL, "bird 0 of hill year 24"), (1, 1, "number")),
            (text_of(HILL, "bird 1000 of hill year 24"), (1, 1, "number")),
            (text_of(HILL, "bird -7 of hill year 24"), (1, 1, "number")),
            (text_of(HILL, "bird 7 of hill year 100"), (1, 5, "number")),
            (text_of(HILL, "bird 7 of hill year -1"), (1, 5, "number")),
            (north.format(-1, 900, 0, 0), (0, 6, "number")),
            (north.format(360, 360, 0, 0), (0, 8, "number")),
            (north.format(360, 359, 0, 0), (0, 8, "number")),
            (north.format(0, 0, 0, 0), (0, 8, "number")),
            (north.format(0, -1, 0, 0), (0, 8, "number")),
            (north.format(9999, 9999, 0, 0), (0, 8, "number")),
            (north.format(360, 900, 1440, 0), (0, 10, "number")),
            (north.format(360, 900, -1, 0), (0, 10, "number")),
            (north.format(360, 900, 0, 1440), (0, 12, "number")),
            (north.format(360, 900, 0, -1), (0, 12, "number")),
        ])

    def test_the_first_number_out_of_its_range_counts(self):
        north = "race north from 3 4 start {} close {} dark {} to {}"
        self.check([
            (text_of(HILL, "bird 0 of hill year 100"), (1, 1, "number")),
            (north.format(-2, -1, 1440, 1440), (0, 6, "number")),
            (north.format(-1, -2, 1440, 1440), (0, 6, "number")),
            (north.format(5, 4, 1440, 1440), (0, 8, "number")),
            (north.format(5, 6, 1440, 1440), (0, 10, "number")),
        ])

    def test_words_that_are_no_names(self):
        for word in FIXED:
            with self.subTest(word=word):
                self.assertEqual(fault_of(f"loft {word} at 1 2"), (0, 1, "name"))
                self.assertEqual(fault_of(text_of(HILL, NORTH.replace("north", word))), (1, 1, "name"))
                self.assertEqual(fault_of(text_of(HILL, f"bird 7 of {word} year 24")), (1, 3, "name"))

    def test_names_that_stand_already(self):
        self.check([
            (text_of(HILL, "loft hill at 1 2"), (1, 1, "name")),
            (text_of(HILL, MILL, "", "loft hill at 1 2"), (3, 1, "name")),
            (text_of(HILL, NORTH, NORTH), (2, 1, "name")),
            (text_of(HILL, NORTH, SOUTH, "race north from 1 1 start 0 close 1 dark 0 to 0"), (3, 1, "name")),
            (text_of(HILL, MILL, NORTH.replace("north", "mill")), (2, 1, "name")),
        ])

    def test_names_of_no_loft_behind_of(self):
        self.check([
            (SEVEN, (0, 3, "name")),
            (text_of(MILL, SEVEN), (1, 3, "name")),
            (text_of(HILL, "bird 7 of hil year 24"), (1, 3, "name")),
            (text_of(HILL, "bird 7 of north year 24", NORTH), (1, 3, "name")),
        ])

    def test_rings_that_stand_already(self):
        self.check([
            (text_of(HILL, SEVEN, SEVEN), (2, 1, "ring")),
            (text_of(HILL, MILL, SEVEN, EIGHT, "bird 7 of mill year 1"), (4, 1, "ring")),
        ])

    def test_races_from_the_place_of_a_loft(self):
        self.check([
            (text_of(HILL, "race east from 0 0 start 0 close 1 dark 0 to 0"), (1, 3, "place")),
            (text_of(HILL, MILL, SOUTH, "race east from -30 40 start 0 close 1 dark 0 to 0"), (3, 3, "place")),
            (text_of(HILL, MILL, "race east from 40 -30 start 0 close 1 dark 0 to 0"), None),
            (text_of(HILL, MILL, "race east from 0 40 start 0 close 1 dark 0 to 0"), None),
            (text_of(HILL, MILL, "race east from -30 0 start 0 close 1 dark 0 to 0"), None),
        ])

    def test_too_many(self):
        lofts, birds, races = greatest()
        self.check([
            (text_of(*lofts, "loft x at 1 2"), (6, 0, "many")),
            (text_of(*lofts, "", "loft x at 1 2", *birds), (7, 0, "many")),
            (text_of(*lofts, *birds, "bird 13 of a year 1"), (18, 0, "many")),
            (text_of(*lofts, *birds, *races, "race x from 7 8 start 0 close 1 dark 0 to 0"), (22, 0, "many")),
            (text_of(*lofts, *birds, *races), None),
            (text_of(*lofts[:5], "loft x at 1 2"), None),
        ])

    def test_a_fault_of_form_goes_ahead_of_a_number(self):
        self.check([
            (text_of(HILL, "bird 0 of hill year"), (1, 5, "end")),
            (text_of(HILL, "bird 0 of hill year 24 x"), (1, 6, "unexpected")),
            (text_of(HILL, "bird 0 of hill age 24"), (1, 4, "unexpected")),
            ("race north from 3 4 start -1 close", (0, 8, "end")),
            ("race north from 3 4 start -1 close 5 dark 1 to x", (0, 12, "unexpected")),
        ])

    def test_a_number_goes_ahead_of_names_rings_and_places(self):
        self.check([
            (text_of(HILL, "bird 7 of nobody year 100"), (1, 5, "number")),
            (text_of(HILL, SEVEN, "bird 7 of hill year 100"), (2, 5, "number")),
            (text_of(HILL, "race hill from 3 4 start 5 close 5 dark 0 to 0"), (1, 8, "number")),
            (text_of(HILL, "race from from 3 4 start 0 close 5 dark 0 to 1440"), (1, 12, "number")),
            (text_of(HILL, "race east from 0 0 start 0 close 5 dark 0 to 1440"), (1, 12, "number")),
        ])

    def test_a_form_goes_ahead_of_names(self):
        self.check([
            ("loft of at 0", (0, 4, "end")),
            (text_of(HILL, "loft hill at 0 0 0"), (1, 5, "unexpected")),
            (text_of(HILL, "bird 7 of nobody year"), (1, 5, "end")),
        ])

    def test_names_go_ahead_of_rings_and_places(self):
        self.check([
            (text_of(HILL, SEVEN, "bird 7 of nobody year 1"), (2, 3, "name")),
            (text_of(HILL, "race hill from 0 0 start 0 close 5 dark 0 to 0"), (1, 1, "name")),
        ])

    def test_all_goes_ahead_of_many(self):
        lofts, birds, races = greatest()
        self.check([
            (text_of(*lofts, "loft a at 1 2"), (6, 1, "name")),
            (text_of(*lofts, "loft at at 1 2"), (6, 1, "name")),
            (text_of(*lofts, "loft x at 1"), (6, 4, "end")),
            (text_of(*lofts, *birds, "bird 13 of x year 1"), (18, 3, "name")),
            (text_of(*lofts, *birds, "bird 12 of a year 1"), (18, 1, "ring")),
            (text_of(*lofts, *birds, "bird 13 of a year 100"), (18, 5, "number")),
            (text_of(*lofts, *birds, *races, "race x from 5 -5 start 0 close 1 dark 0 to 0"), (22, 3, "place")),
            (text_of(*lofts, *birds, *races, "race g from 7 8 start 0 close 1 dark 0 to 0"), (22, 1, "name")),
            (text_of(*lofts, *birds, *races, "race x from 7 8 start 1 close 1 dark 0 to 0"), (22, 8, "number")),
        ])

    def test_the_first_faulty_line_counts(self):
        self.check([
            (text_of(HILL, "loft hill at 1 2", "loft"), (1, 1, "name")),
            (text_of(HILL, "bird 0 of hill year 1", "#"), (1, 1, "number")),
            (text_of("loft", "#"), (0, 1, "end")),
            (text_of("#", "loft"), (0, 0, "unexpected")),
        ])

    def test_blank_lines_are_counted(self):
        self.check([
            (text_of("", "", "#"), (2, 0, "unexpected")),
            (text_of("", HILL, "   ", "", SEVEN, " ", SEVEN), (6, 1, "ring")),
            (text_of("    ", "   loft"), (1, 1, "end")),
        ])

    def test_the_fields_are_integers_and_a_word(self):
        with self.assertRaises(ClubFault) as held:
            read_club("loft")
        fault = held.exception
        self.assertEqual([type(fault.line), type(fault.place), type(fault.word)], [int, int, str])


MORE_LINES = [
    "", "  ", "loft x at 5 5", "bird 99 of a year 1", "bird 99 of hill year 1",
    "race x from 5 6 start 0 close 1 dark 0 to 0", "race x from 0 0 start 0 close 1 dark 0 to 0"] * 3
PIECES = ["#", "-", "", "0", "-1", "9999", "100", "abcdefghi"]


def changed(text, chance):
    """A text with a few changes."""
    lines = text.split("\n")
    pieces = [word for line in lines for word in line.split(" ")] + PIECES
    for _ in range(chance.randint(0, 3)):
        at = chance.randrange(len(lines))
        words = lines[at].split(" ")
        place = chance.randrange(len(words))
        way = chance.randrange(7)
        if way == 0:
            words[place] = chance.choice(pieces)
        elif way == 1:
            words.insert(place, chance.choice(pieces))
        elif way == 2:
            del words[place]
        elif way == 3:
            words = words[:place]
        elif way == 4:
            words.append(chance.choice(pieces))
        elif way == 5:
            other = chance.randrange(len(lines))
            lines[at], lines[other] = lines[other], lines[at]
            continue
        else:
            lines.insert(chance.randrange(len(lines) + 1), chance.choice(lines + MORE_LINES))
            continue
        lines[at] = " ".join(words)
    return "\n".join(lines)


class ManyTexts(unittest.TestCase):
    def test_changed_texts_against_another_reading(self):
        chance = random.Random(20)
        wholes = [text_of(HILL, MILL, SEVEN, EIGHT, NORTH, SOUTH),
                  text_of(HILL, SEVEN, NORTH),
                  text_of(*greatest()[0], *greatest()[1], *greatest()[2]),
                  text_of(*greatest()[0][:2], SEVEN.replace("hill", "a"), *greatest()[2])]
        words = set()
        for _ in range(6000):
            text = changed(chance.choice(wholes), chance)
            told = fault_of(text) or read_club(text)
            self.assertEqual(told, known(text), text)
            words.add(told[2] if isinstance(told[2], str) else "club")
        # So that the changes reach each row of [b3].
        self.assertEqual(words, {"unexpected", "end", "number", "name", "ring", "place", "many", "club"})


class Finding(unittest.TestCase):
    def setUp(self):
        self.club = read_club(text_of(HILL, MILL, EIGHT, SEVEN, NORTH, SOUTH))

    def test_what_is_there(self):
        self.assertEqual([loft_named(self.club, name) for name in ("hill", "mill")], [0, 1])
        self.assertEqual([race_named(self.club, name) for name in ("north", "south")], [0, 1])
        self.assertEqual([bird_of(self.club, ring) for ring in (8, 7)], [0, 1])

    def test_names_that_are_not_there(self):
        for find, names in [(loft_named, ("north", "south", "hil", "hills", "", "loft")),
                            (race_named, ("hill", "mill", "nort", "", "race"))]:
            for name in names:
                with self.subTest(find=find.__name__, name=name):
                    with self.assertRaises(NoSuchName) as held:
                        find(self.club, name)
                    self.assertEqual(held.exception.name, name)

    def test_rings_that_are_not_there(self):
        for ring in (0, 1, 6, 9, 999, -7, 24):
            with self.subTest(ring=ring):
                with self.assertRaises(NoSuchRing) as held:
                    bird_of(self.club, ring)
                self.assertEqual(held.exception.ring, ring)

    def test_a_club_of_nothing(self):
        club = ((), (), ())
        self.assertRaises(NoSuchName, loft_named, club, "hill")
        self.assertRaises(NoSuchName, race_named, club, "north")
        self.assertRaises(NoSuchRing, bird_of, club, 7)


class Interface(unittest.TestCase):
    def test_arguments_have_the_told_names(self):
        club = read_club(text=text_of(HILL, SEVEN, NORTH))
        self.assertEqual(loft_named(club=club, name="hill"), 0)
        self.assertEqual(race_named(club=club, name="north"), 0)
        self.assertEqual(bird_of(club=club, ring=7), 0)

    def test_functions_are_defined_in_their_file(self):
        for function in (read_club, loft_named, race_named, bird_of):
            with self.subTest(name=function.__name__):
                self.assertEqual(function.__module__, "homingtrue.clubs")
                self.assertIs(getattr(homingtrue.clubs, function.__name__), function)


if __name__ == "__main__":
    unittest.main()
