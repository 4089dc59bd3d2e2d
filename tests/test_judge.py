"""[w1], [w2]: the judge of papers."""

import itertools
import random
import unittest

import homingtrue.judge
from homingtrue.errors import WrongPaper
from homingtrue.judge import judge
from homingtrue.outlook import outlook
from homingtrue.papers import paper_of
from tests.known import known_outlook, known_times, known_wrong, pair, situation
from tests.test_outlook import CLOCKS, CLUB, EXAMPLE, RINGS, slips_of

# The bird 7 has 2500, the bird 3 has 100, the bird 12 has 25; at the minute 400 a bird of a long way
# that is out has at most 156 and 1/4, one of a short way 1/1600.
SLIPS = slips_of(0, r7=370, r3=410, r12=460)
NOW = (CLUB, CLOCKS, SLIPS, 0, RINGS, 400)
NOTHING = ((), (), (), ())


def wrong_part(told, ring, pair_told, paper):
    """The index of the first wrong part, None if the paper is let by."""
    try:
        found = judge(*told, ring, pair_told, paper)
    except WrongPaper as wrong:
        return wrong.at
    assert found is None
    return found


class Judged(unittest.TestCase):
    told = NOW

    def check(self, ring, pair_told, paper, at):
        with self.subTest(ring=ring, pair=pair_told, paper=paper):
            self.assertEqual(wrong_part(self.told, ring, pair_told, paper), at)
            self.assertEqual(known_wrong(*self.told, ring, pair_told, paper), at)
            if at is None:
                self.assertIn((ring,) + pair_told, outlook(*self.told))


class Home(Judged):
    RIGHT = ((), ((5, (400, 1)),), (7,), (9, 12, 100))

    def test_a_right_paper(self):
        self.check(3, (2, 3), self.RIGHT, None)
        self.check(7, (1, 1), ((), (), (), (3, 5, 9, 12, 100)), None)
        self.check(12, (3, 4), ((), ((5, (400, 1)),), (3, 7), (9, 100)), None)

    def test_other_pairs(self):
        for least, greatest in itertools.product([None, 0, 1, 2, 3, 4, 6, 7], repeat=2):
            at = 0 if least != 2 else 1 if greatest != 3 else None
            self.check(3, (least, greatest), self.RIGHT, at)
        # The first part is judged first, whatever the others are.
        self.check(3, (1, 3), ((), (), (), ()), 0)
        self.check(3, (2, 4), ((), (), (), ()), 1)

    def test_other_rows_for_the_least_place(self):
        _, last, sure, never = self.RIGHT
        for first in (((5, (410, 1)),), ((5, (411, 1)),), ((9, (400, 1)),), ((9, (400, 1)), (100, (900, 1))),
                      ((5, (900, 1)), (9, (801, 2)), (100, (500, 1)))):
            self.check(3, (2, 3), (first, last, sure, never), None)
        for first in (last, ((5, (409, 1)),), ((5, (819, 2)),), ((5, (400, 1)), (9, (400, 1)))):
            self.check(3, (2, 3), (first, last, sure, never), 0)

    def test_other_rows_for_the_greatest_place(self):
        first, _, sure, never = self.RIGHT
        for last in (((5, (409, 1)),), ((5, (819, 2)),), ((5, (400, 1)), (9, (400, 1)), (100, (400, 1)))):
            self.check(3, (2, 3), (first, last, sure, never), None)
        for last in ((), ((5, (410, 1)),), ((5, (900, 1)),), ((9, (400, 1)),), ((9, (400, 1)), (100, (400, 1)))):
            self.check(3, (2, 3), (first, last, sure, never), 1)

    def test_rows_are_exchanged(self):
        first, last, sure, never = self.RIGHT
        self.check(3, (2, 3), (last, first, sure, never), 0)
        self.check(3, (3, 2), (last, first, sure, never), 2)
        self.check(3, (2, 3), (first, first, sure, never), 1)

    def test_sure_rings_left_out_put_in_and_exchanged(self):
        first, last, _, never = self.RIGHT
        for sure in ((), (12,), (5,), (9,), (3,), (8,), (999,), (3, 7), (5, 7), (7, 12), (7, 999), (7, 7), (3, 5, 7)):
            self.check(3, (2, 3), (first, last, sure, never), 2)

    def test_several_sure_rings(self):
        row = ((5, (400, 1)),)
        self.check(12, (3, 4), ((), row, (3, 7), (9, 100)), None)
        for sure in ((3,), (7,), (7, 7), (3, 3), (7, 3), (3, 5), (5, 7), (3, 12), (3, 5, 7), (3, 7, 12), (3, 8), ()):
            self.check(12, (3, 4), ((), row, sure, (9, 100)), 2)

    def test_never_rings_left_out_put_in_and_exchanged(self):
        first, last, sure, _ = self.RIGHT
        for never in ((), (9, 12), (9, 100), (12, 100), (9,), (5, 9, 12, 100), (5, 12, 100), (7, 9, 12),
                      (7, 9, 12, 100), (3, 9, 12), (3, 9, 12, 100), (8, 12, 100), (9, 12, 999), (9, 9, 12), (9, 12, 12),
                      (9, 9, 9), (12, 9, 100), (9, 12, 100, 100)):
            self.check(3, (2, 3), (first, last, sure, never), 3)

    def test_all_wrong_and_wrong_from_some_part_on(self):
        first, last, sure, never = self.RIGHT
        wrong = (((5, (400, 1)),), (), (), ())
        self.check(3, (2, 3), wrong, 0)
        self.check(3, (2, 3), (first,) + wrong[1:], 1)
        self.check(3, (2, 3), (first, last) + wrong[2:], 2)
        self.check(3, (2, 3), (first, last, sure) + wrong[3:], 3)

    def test_birds_of_one_speed_are_neither_sure_nor_ever_ahead(self):
        self.told = (CLUB, CLOCKS, slips_of(0, r7=410, r3=410, r12=370), 0, (3, 5, 7, 12), 410)
        self.check(7, (2, 2), ((), (), (12,), (3, 5)), None)
        self.check(7, (3, 3), ((), (), (3, 12), (5,)), 0)
        self.check(7, (2, 2), ((), (), (3,), (3, 5)), 2)
        self.check(7, (2, 2), ((), (), (12,), (5,)), 3)
        self.check(7, (2, 3), ((), ((5, (410, 1)),), (12,), (3,)), 1)

    def test_a_bird_that_is_out_and_can_be_ahead_is_not_never_ahead(self):
        self.told = (CLUB, CLOCKS, slips_of(0, r7=410), 0, (3, 7), 409)
        self.check(7, (1, 2), ((), ((3, (409, 1)),), (), ()), None)
        self.check(7, (1, 1), ((), (), (), (3,)), 3)
        self.check(7, (1, 1), ((), ((3, (410, 1)),), (), (3,)), 3)

    def test_birds_let_go_in_the_dark(self):
        self.told = (CLUB, CLOCKS, slips_of(1, r7=381), 1, (3, 7), 370)
        self.check(7, (1, 2), ((), ((3, (761, 2)),), (), ()), None)
        self.check(7, (1, 2), ((), ((3, (380, 1)),), (), ()), 1)
        self.check(7, (1, 1), ((), (), (), (3,)), 3)
        self.told = (CLUB, CLOCKS, slips_of(1, r7=381), 1, (3, 7), 381)
        self.check(7, (1, 1), ((), (), (), (3,)), None)

    def test_all_home(self):
        self.told = (CLUB, CLOCKS, SLIPS, 0, (3, 7, 12), 360)
        self.check(3, (2, 2), ((), (), (7,), (12,)), None)
        self.check(3, (2, 3), ((), (), (7,), ()), 1)
        self.check(3, (2, 2), ((), (), (7,), (9,)), 3)
        self.check(3, (2, 2), ((), (), (7,), ()), 3)

    def test_one_entrant(self):
        self.told = (CLUB, CLOCKS, slips_of(0, r7=370), 0, (7,), 360)
        self.check(7, (1, 1), NOTHING, None)
        self.check(7, (1, None), NOTHING, 1)
        self.check(7, (None, None), NOTHING, 0)
        self.check(7, (1, 1), ((), (), (7,), ()), 2)
        self.check(7, (1, 1), ((), (), (), (7,)), 3)


class Out(Judged):
    RIGHT = (((5, (400, 1)),), (), (7,), ())

    def test_a_right_paper(self):
        self.check(5, (2, None), self.RIGHT, None)
        self.check(9, (4, None), (((9, (400, 1)),), (), (3, 7, 12), ()), None)

    def test_other_pairs(self):
        for least, greatest in itertools.product([None, 0, 1, 2, 3, 4, 6, 7], repeat=2):
            at = 0 if least != 2 else 1 if greatest is not None else None
            self.check(5, (least, greatest), self.RIGHT, at)

    def test_other_rows(self):
        for first in (((5, (409, 1)),), ((5, (819, 2)),), ((5, (400, 1)), (9, (400, 1)), (100, (500, 1)))):
            self.check(5, (2, None), (first,) + self.RIGHT[1:], None)
        for first in ((), ((5, (411, 1)),), ((5, (821, 2)),), ((9, (400, 1)),), ((5, (900, 1)), (9, (400, 1)))):
            self.check(5, (2, None), (first,) + self.RIGHT[1:], 0)

    def test_an_arrival_beside_one_that_is_home_has_its_place(self):
        self.check(5, (2, None), (((5, (410, 1)),), (), (7,), ()), None)

    def test_a_second_row_and_never_rings(self):
        first, _, sure, _ = self.RIGHT
        for last in (first, ((5, (900, 1)),), ((9, (400, 1)),)):
            self.check(5, (2, None), (first, last, sure, ()), 1)
        for never in ((3,), (5,), (9, 100), (8,), (3, 9, 12, 100)):
            self.check(5, (2, None), (first, (), sure, never), 3)

    def test_sure_rings_left_out_put_in_and_exchanged(self):
        first = self.RIGHT[0]
        for sure in ((), (3,), (12,), (5,), (9,), (8,), (999,), (3, 7), (7, 7), (7, 12), (7, 9), (3, 7, 12)):
            self.check(5, (2, None), (first, (), sure, ()), 2)

    def test_a_place_that_is_not_the_least_one(self):
        # In these lists it has the place, but the birds of home are not faster whenever it comes.
        self.check(5, (3, None), (((5, (411, 1)),), (), (3, 7), ()), 2)
        self.check(5, (4, None), (((5, (900, 1)),), (), (3, 7, 12), ()), 2)
        self.check(5, (3, None), (((5, (411, 1)),), (), (7,), ()), 2)

    def test_it_can_have_the_speed_of_a_sure_one(self):
        self.told = (CLUB, CLOCKS, SLIPS, 0, RINGS, 410)
        self.check(5, (2, None), (((5, (410, 1)),), (), (7,), ()), None)
        self.check(5, (3, None), (((5, (411, 1)),), (), (3, 7), ()), 2)
        self.told = (CLUB, CLOCKS, SLIPS, 0, RINGS, 411)
        self.check(5, (3, None), (((5, (411, 1)),), (), (3, 7), ()), None)
        self.check(5, (2, None), (((5, (411, 1)),), (), (7,), ()), 0)

    def test_claimed_to_have_no_place(self):
        self.check(5, (None, None), NOTHING, 0)
        self.check(5, (None, None), self.RIGHT, 0)

    def test_none_home(self):
        self.told = (CLUB, CLOCKS, [], 0, RINGS, 900)
        self.check(5, (1, None), (((5, (900, 1)),), (), (), ()), None)
        self.check(5, (1, None), NOTHING, 0)
        self.check(5, (1, 6), (((5, (900, 1)),), (), (), ()), 1)
        self.check(5, (1, None), (((5, (900, 1)),), (), (3,), ()), 2)

    def test_it_is_let_go_now_or_in_the_dark(self):
        self.told = (CLUB, CLOCKS, slips_of(1, r7=381), 1, (5, 7), 370)
        self.check(5, (1, None), (((5, (761, 2)),), (), (), ()), None)
        self.check(5, (1, None), (((5, (370, 1)),), (), (), ()), 0)
        self.check(5, (2, None), (((5, (382, 1)),), (), (7,), ()), 2)
        self.told = (CLUB, CLOCKS, slips_of(0, r7=361), 0, (5, 7), 360)
        self.check(5, (1, None), (((5, (721, 2)),), (), (), ()), None)
        self.check(5, (2, None), (((5, (400, 1)),), (), (7,), ()), 2)


class Never(Judged):
    told = (CLUB, CLOCKS, [], 2, RINGS, 500)

    def test_a_right_paper(self):
        for ring in RINGS:
            self.check(ring, (None, None), NOTHING, None)

    def test_other_pairs(self):
        for least, greatest in itertools.product([None, 0, 1, 2, 6], repeat=2):
            at = 0 if least is not None else 1 if greatest is not None else None
            self.check(5, (least, greatest), NOTHING, at)

    def test_other_parts(self):
        row = ((5, (600, 1)),)
        self.check(5, (None, None), (row, (), (), ()), 0)
        self.check(5, (1, None), (row, (), (), ()), 0)
        self.check(5, (None, None), ((), row, (), ()), 1)
        self.check(5, (None, None), ((), (), (3,), ()), 2)
        self.check(5, (None, None), ((), (), (), (3,)), 3)
        self.check(5, (None, None), (row, row, (3,), (3,)), 0)


class Rows(unittest.TestCase):
    """Rows that are no arrival rows, so that the paper is none."""

    def test_rows_that_are_none(self):
        told = (CLUB, CLOCKS, SLIPS, 0, (3, 5, 7, 12, 100), 400)
        right = ((), ((5, (400, 1)),), (7,), (12, 100))
        self.assertIs(wrong_part(told, 3, (2, 3), right), None)
        for row in (((5, (399, 1)),), ((5, (799, 2)),), ((100, (901, 1)),), ((100, (1801, 2)),), ((9, (500, 1)),),
                    ((12, (500, 1)),), ((3, (400, 1)),), ((999, (500, 1)),), ((100, (500, 1)), (100, (500, 1))),
                    ((100, (500, 1)), (5, (500, 1)))):
            with self.subTest(row=row):
                self.assertEqual(wrong_part(told, 3, (2, 3), (row,) + right[1:]), 0)
                self.assertEqual(wrong_part(told, 3, (None, 3), (row,) + right[1:]), 0)
                self.assertEqual(wrong_part(told, 3, (2, None), ((), row) + right[2:]), 1)
                self.assertEqual(wrong_part(told, 3, (2, 3), ((), ((5, (400, 1)),) + row) + right[2:]), 1)

    def test_a_time_ahead_of_now_shows_nothing(self):
        told = (CLUB, CLOCKS, slips_of(0, r7=410), 0, (5, 7), 411)
        self.assertEqual(wrong_part(told, 5, (1, None), (((5, (409, 1)),), (), (), ())), 0)


class ManyPapers(unittest.TestCase):
    def changed_rings(self, chance, rings, entrants):
        rings = list(rings)
        for _ in range(chance.randint(1, 2)):
            way = chance.randrange(3)
            if way < 2 and rings:
                rings.pop(chance.randrange(len(rings)))
            if way > 0:
                rings.append(chance.choice(entrants + (998,)))
        return tuple(chance.choice([sorted(set(rings)), sorted(rings), rings]))

    def changed(self, chance, told, home, paper, ring):
        """Another paper, of which the rows are rows of birds that are out with right times."""
        club, _, _, race, entrants, now = told
        parts = list(paper)
        for _ in range(chance.randint(1, 2)):
            at = chance.randrange(4)
            if at > 1:
                parts[at] = self.changed_rings(chance, parts[at], entrants)
            elif chance.randrange(2):
                out = [other for other in entrants if other not in home]
                times = known_times(club, race, now)
                parts[at] = tuple((other, pair(chance.choice(times))) for other in out if chance.randrange(2))
            else:
                parts[at] = chance.choice([(), parts[1 - at], parts[at][1:], parts[at][:-1]])
        return tuple(parts)

    def test_papers_of_outlooks_are_let_by(self):
        chance = random.Random(51)
        for _ in range(400):
            told = situation(chance)
            for ring, least, greatest in outlook(*told):
                self.assertIs(wrong_part(told, ring, (least, greatest), paper_of(*told, ring)), None)

    def test_other_pairs_are_not_let_by(self):
        chance = random.Random(52)
        many = 0
        for _ in range(200):
            told = situation(chance)
            for ring, least, greatest in outlook(*told):
                paper = paper_of(*told, ring)
                for pair_told in itertools.product([None, 0, 1, 2, 3, 4, 5], repeat=2):
                    if pair_told != (least, greatest):
                        at = wrong_part(told, ring, pair_told, paper)
                        self.assertEqual(at, 0 if pair_told[0] != least else 1)
                        many += 1
        self.assertGreater(many, 1000)

    def test_changed_papers_against_the_words(self):
        chance = random.Random(53)
        found = {None: 0, 0: 0, 1: 0, 2: 0, 3: 0}
        for _ in range(700):
            told = situation(chance)
            rows = known_outlook(*told)
            home = [ring for ring, _, greatest in rows if greatest is not None]
            for ring, least, greatest in rows:
                paper = self.changed(chance, told, home, paper_of(*told, ring), ring)
                pair_told = chance.choice([(least, greatest), (least, greatest), tuple(
                    chance.choice([place, None, 1, 2]) for place in (least, greatest))])
                at = wrong_part(told, ring, pair_told, paper)
                with self.subTest(told=told, ring=ring, pair=pair_told, paper=paper):
                    self.assertEqual(at, known_wrong(*told, ring, pair_told, paper))
                    if at is None:
                        self.assertEqual(pair_told, (least, greatest))
                found[at] += 1
        self.assertTrue(all(many > 100 for many in found.values()), found)


class Interface(unittest.TestCase):
    def test_arguments_have_the_told_names(self):
        told = {"club": EXAMPLE, "clocks": [(0, 0, 300, 900, 912)], "slips": [(0, 7, 402)], "race": 0}
        paper = ((), (), (), (8,))
        self.assertIs(judge(entrants=(7, 8), now=400, ring=7, told=(1, 1), paper=paper, **told), None)
        with self.assertRaises(WrongPaper) as caught:
            judge(entrants=(7, 8), now=400, ring=7, told=(1, 2), paper=paper, **told)
        self.assertEqual(caught.exception.at, 1)

    def test_arguments_are_not_changed(self):
        slips, clocks = list(SLIPS), list(CLOCKS)
        judge(CLUB, clocks, slips, 0, RINGS, 400, 3, (2, 3), Home.RIGHT)
        self.assertRaises(WrongPaper, judge, CLUB, clocks, slips, 0, RINGS, 400, 3, (2, 2), Home.RIGHT)
        self.assertEqual((slips, clocks), (SLIPS, CLOCKS))

    def test_the_function_is_defined_in_its_file(self):
        self.assertEqual(judge.__module__, "homingtrue.judge")
        self.assertIs(homingtrue.judge.judge, judge)


if __name__ == "__main__":
    unittest.main()
