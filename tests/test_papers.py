"""[w1], [w2]: the papers of outlooks."""

import random
import unittest
from math import gcd

import homingtrue.papers
from homingtrue.outlook import list_with, outlook
from homingtrue.papers import paper_of
from tests.known import known_outlook, known_speeds, known_wrong, number, situation
from tests.test_outlook import CLOCKS, CLUB, EXAMPLE, RINGS, slips_of


class Papers(unittest.TestCase):
    def check_kinds(self, paper, entrants, now, close, home):
        self.assertEqual((type(paper), len(paper)), (tuple, 4))
        for row in paper[:2]:
            self.assertIs(type(row), tuple)
            rings = [ring for ring, _ in row]
            self.assertEqual(rings, sorted(set(rings)))
            self.assertTrue(all(ring in entrants and ring not in home for ring in rings))
            for arrival in row:
                self.assertEqual((type(arrival), type(arrival[1])), (tuple, tuple))
                p, q = arrival[1]
                self.assertTrue(q >= 1 and gcd(p, q) == 1)
                self.assertTrue(now <= number((p, q)) <= close)
        for rings in paper[2:]:
            self.assertIs(type(rings), tuple)
            self.assertEqual(list(rings), sorted(set(rings)))
            self.assertTrue(all(ring in entrants for ring in rings))

    def check(self, told, outlooks=None):
        """The paper of each entrant is right by the words of [w1] for the pair of the outlook."""
        club, clocks, slips, race, entrants, now = told
        home = known_speeds(club, clocks, slips, race)
        papers = {}
        found = outlook(*told)
        if outlooks is not None:
            self.assertEqual(found, outlooks)
        for ring, least, greatest in found:
            with self.subTest(told=told, ring=ring):
                paper = paper_of(*told, ring)
                self.check_kinds(paper, entrants, now, club[2][race][4], home)
                self.assertNotIn(ring, paper[2] + paper[3])
                self.assertIs(known_wrong(*told, ring, (least, greatest), paper), None)
                papers[ring] = paper
        return papers

    def test_the_example_of_the_interface(self):
        clocks = [(0, 0, 300, 900, 912)]
        papers = self.check((EXAMPLE, clocks, [(0, 7, 402)], 0, (7, 8), 400), [(7, 1, 1), (8, 1, None)])
        self.assertEqual(papers[7][2:], ((), (8,)))
        papers = self.check((EXAMPLE, clocks, [(0, 7, 402)], 0, (7, 8), 399), [(7, 1, 2), (8, 1, None)])
        self.assertEqual(papers[7][2:], ((), ()))
        self.assertEqual([ring for ring, _ in papers[7][1]], [8])
        self.assertEqual(papers[8][1:], ((), (), ()))

    def test_all_home(self):
        slips = slips_of(0, r7=410, r3=370, r12=410, r9=361)
        papers = self.check((CLUB, CLOCKS, slips, 0, (3, 7, 9, 12), 500),
                            [(3, 1, 1), (7, 2, 2), (9, 4, 4), (12, 2, 2)])
        self.assertEqual(papers, {3: ((), (), (), (7, 9, 12)), 7: ((), (), (3,), (9, 12)),
                                  9: ((), (), (3, 7, 12), ()), 12: ((), (), (3,), (7, 9))})

    def test_a_bird_that_is_home_while_others_are_out(self):
        slips = slips_of(0, r7=370, r3=410, r12=460)
        papers = self.check((CLUB, CLOCKS, slips, 0, RINGS, 400))
        self.assertEqual([paper[2:] for ring, paper in papers.items() if ring in (3, 7, 12)],
                         [((7,), (9, 12, 100)), ((), (3, 5, 9, 12, 100)), ((3, 7), (9, 100))])
        self.assertEqual([[ring for ring, _ in papers[home][1]] for home in (3, 7, 12)], [[5], [], [5]])

    def test_a_bird_that_is_out_and_has_a_least_place(self):
        slips = slips_of(0, r7=370, r3=410, r12=460)
        papers = self.check((CLUB, CLOCKS, slips, 0, RINGS, 400))
        self.assertEqual({ring: papers[ring][1:] for ring in (5, 9, 100)},
                         {5: ((), (7,), ()), 9: ((), (3, 7, 12), ()), 100: ((), (3, 7, 12), ())})
        for ring, place in ((5, 2), (9, 4), (100, 4)):
            rows = list_with(CLUB, CLOCKS, slips, 0, papers[ring][0])
            self.assertEqual([row[0] for row in rows if row[1] == ring], [place])

    def test_a_bird_as_fast_as_one_that_is_home(self):
        slips = slips_of(0, r7=370, r3=410, r12=460)
        papers = self.check((CLUB, CLOCKS, slips, 0, (3, 5, 7, 12), 410),
                            [(3, 2, 2), (5, 2, None), (7, 1, 1), (12, 3, 4)])
        self.assertEqual((papers[3][2:], papers[5][2:]), (((7,), (5, 12)), ((7,), ())))

    def test_none_home(self):
        papers = self.check((CLUB, CLOCKS, [], 0, RINGS, 400), [(ring, 1, None) for ring in RINGS])
        for paper in papers.values():
            self.assertEqual(paper[1:], ((), (), ()))
        self.check((CLUB, CLOCKS, [], 0, RINGS, 360), [(ring, 1, None) for ring in RINGS])
        self.check((CLUB, CLOCKS, [], 1, RINGS, 360), [(ring, 1, None) for ring in RINGS])

    def test_none_can_come(self):
        for now in (360, 899, 900):
            papers = self.check((CLUB, CLOCKS, [], 2, RINGS, now), [(ring, None, None) for ring in RINGS])
            self.assertEqual(papers, {ring: ((), (), (), ()) for ring in RINGS})

    def test_birds_let_go_in_the_dark(self):
        slips = slips_of(1, r7=381, r12=382)
        for now in (360, 370, 379, 380, 381):
            self.check((CLUB, CLOCKS, slips, 1, RINGS, now))
        clocks = [(1, 0, 300, 381, 9999), (1, 1, 300, 381, 9999)]
        # These arrivals come behind the dark and ahead of the minute 381: only a time close to the dark passes them.
        slips = [(1, 7, 9880), (1, 3, 9881), (1, 12, 9999)]
        for now in (360, 380):
            self.check((CLUB, clocks, slips, 1, RINGS, now))

    def test_birds_let_go_now(self):
        slips = slips_of(0, r7=361, r9=361)
        papers = self.check((CLUB, CLOCKS, slips, 0, RINGS, 360))
        self.assertEqual([ring for ring, _ in papers[7][1]], [3, 5, 12, 100])

    def test_a_dark_that_ends_at_the_last_minute(self):
        for dusk, dawn in ((300, 899), (359, 899), (360, 899), (1439, 899), (900, 899)):
            club = (CLUB[0], CLUB[1], (("north", 300, 400, 360, 900, dusk, dawn),))
            slips = [(0, 7, 9700), (0, 9, 9999)]
            clocks = [(0, 0, 300, 900, 9999), (0, 2, 300, 900, 9999)]
            for now in (360, 898, 899, 900):
                self.check((club, clocks, slips, 0, RINGS, now))

    def test_a_start_at_the_minute_of_dawn_or_dusk(self):
        for dusk, dawn in ((300, 360), (360, 400), (360, 360), (100, 360), (400, 360)):
            club = (CLUB[0], CLUB[1], (("north", 300, 400, 360, 900, dusk, dawn),))
            for now in (360, 361, 400):
                self.check((club, CLOCKS, slips_of(0, r7=450, r9=450), 0, RINGS, now))

    def test_a_start_in_the_dark_of_a_later_day(self):
        # The minute 3000 is the minute 120 of its day; it is dark up to the minute 3180.
        club = (CLUB[0], CLUB[1], (("north", 300, 400, 3000, 3900, 1260, 300),))
        clocks = [(0, 0, 3000, 4000, 4000), (0, 2, 3000, 4000, 4000)]
        for now in (3000, 3100, 3180, 3181, 3900):
            self.check((club, clocks, [(0, 7, 3181), (0, 9, 3190)], 0, RINGS, now))

    def test_great_ways_and_great_speeds(self):
        lofts = (("hill", -9999, -9999), ("mill", 9999, 9998))
        club = (lofts, ((1, 0, 0), (2, 1, 0), (3, 0, 0)), (("north", 9999, 9999, 0, 9999, 0, 0),))
        clocks = [(0, 0, 0, 1, 9999), (0, 1, 0, 1, 9999)]
        for slips in ([(0, 1, 1)], [(0, 2, 1)], [(0, 1, 1), (0, 2, 9999)], [(0, 1, 9999), (0, 2, 1)]):
            for now in (0, 1, 9999):
                self.check((club, clocks, slips, 0, (1, 2, 3), now))

    def test_no_entrant_but_one(self):
        self.assertEqual(self.check((CLUB, CLOCKS, slips_of(0, r7=410), 0, (7,), 360)), {7: ((), (), (), ())})
        papers = self.check((CLUB, CLOCKS, [], 0, (7,), 360))
        self.assertEqual(papers[7][1:], ((), (), ()))
        self.assertEqual([ring for ring, _ in papers[7][0]], [7])

    def test_many_against_the_words(self):
        chance = random.Random(41)
        for _ in range(500):
            told = situation(chance)
            self.check(told, known_outlook(*told))


class Interface(unittest.TestCase):
    def test_arguments_have_the_told_names(self):
        told = {"club": EXAMPLE, "clocks": [(0, 0, 300, 900, 912)], "slips": [(0, 7, 402)], "race": 0}
        self.assertEqual(paper_of(entrants=(7, 8), now=400, ring=7, **told), ((), (), (), (8,)))

    def test_arguments_are_not_changed(self):
        slips, clocks = slips_of(0, r7=410, r3=370), list(CLOCKS)
        for ring in RINGS:
            paper = paper_of(CLUB, clocks, slips, 0, RINGS, 400, ring)
            self.assertEqual(paper_of(CLUB, clocks, slips, 0, RINGS, 400, ring), paper)
        self.assertEqual((slips, clocks), (slips_of(0, r7=410, r3=370), CLOCKS))

    def test_the_function_is_defined_in_its_file(self):
        self.assertEqual(paper_of.__module__, "homingtrue.papers")
        self.assertIs(homingtrue.papers.paper_of, paper_of)


if __name__ == "__main__":
    unittest.main()
