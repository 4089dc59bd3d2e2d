"""[o1], [o2]: the owners of birds, and their accounts."""

import itertools
import random
import unittest

import homingtrue.ledger
from homingtrue.ledger import accounts, owner_in
from homingtrue.lists import race_list
from homingtrue.pools import counting_stakes, payments

# Four races alike, without dark; two lofts in the same distance.
RACES = tuple((name, 300, 400, 360, 900, 0, 0) for name in ("n", "o", "p", "q"))
CLUB = ((("hill", 0, 0), ("mill", 600, 800), ("dell", 300, 399)),
        ((7, 0, 24), (3, 1, 1), (12, 0, 25), (5, 1, 2), (20, 2, 3)), RACES)
CLOCKS = [(race, loft, 300, 900, 900) for race in range(4) for loft in range(3)]


def slips_of(race, *order):
    """Slips of one race: birds in a tuple come home together, one tuple behind the other."""
    return [(race, ring, 361 + at) for at, rings in enumerate(order) for ring in rings]


class Owners(unittest.TestCase):
    def check(self, transfers, ring, told):
        with self.subTest(transfers=transfers, ring=ring):
            self.assertEqual([owner_in(CLUB, transfers, ring, race) for race in range(4)], told)

    def test_without_a_transfer_a_bird_belongs_to_its_loft(self):
        for ring, name in ((7, "hill"), (3, "mill"), (12, "hill"), (5, "mill"), (20, "dell")):
            self.check([], ring, [name] * 4)

    def test_a_transfer_holds_from_its_race_on(self):
        self.check([(7, 0, "ann")], 7, ["ann"] * 4)
        self.check([(7, 1, "ann")], 7, ["hill", "ann", "ann", "ann"])
        self.check([(7, 2, "ann")], 7, ["hill", "hill", "ann", "ann"])
        self.check([(7, 3, "ann")], 7, ["hill", "hill", "hill", "ann"])

    def test_several_transfers_of_one_bird(self):
        transfers = [(7, 1, "ann"), (7, 2, "bob"), (7, 3, "cat")]
        for order in itertools.permutations(transfers):
            self.check(list(order), 7, ["hill", "ann", "bob", "cat"])
        self.check([(7, 0, "ann"), (7, 2, "bob")], 7, ["ann", "ann", "bob", "bob"])
        self.check([(7, 2, "bob"), (7, 0, "ann")], 7, ["ann", "ann", "bob", "bob"])

    def test_of_several_for_one_race_the_last_one_counts(self):
        self.check([(7, 1, "ann"), (7, 1, "bob")], 7, ["hill", "bob", "bob", "bob"])
        self.check([(7, 1, "bob"), (7, 1, "ann")], 7, ["hill", "ann", "ann", "ann"])
        self.check([(7, 1, "ann"), (7, 2, "zoe"), (7, 1, "bob"), (7, 1, "cat")], 7, ["hill", "cat", "zoe", "zoe"])

    def test_transfers_of_other_birds_do_not_matter(self):
        self.check([(3, 0, "ann"), (12, 1, "bob")], 7, ["hill"] * 4)
        self.check([(7, 2, "ann"), (3, 2, "bob"), (3, 3, "cat")], 7, ["hill", "hill", "ann", "ann"])

    def test_back_to_its_loft(self):
        self.check([(7, 1, "ann"), (7, 2, "hill")], 7, ["hill", "ann", "hill", "hill"])

    def test_an_owner_of_one_letter_and_of_eight(self):
        self.check([(7, 1, "a"), (7, 3, "abcdefgh")], 7, ["hill", "a", "a", "abcdefgh"])


class Accounts(unittest.TestCase):
    def check(self, slips, stakes, transfers, told, parts=(2, 1), clocks=CLOCKS):
        with self.subTest(slips=slips, stakes=stakes, transfers=transfers):
            found = accounts(CLUB, clocks, slips, stakes, parts, transfers)
            self.assertEqual(found, told)
            self.assertEqual(sum(total for _, total in found), 0)

    def test_no_stakes(self):
        self.check([], [], [], [])
        self.check(slips_of(0, (7,), (3,)), [], [(7, 0, "ann")], [])
        self.check(slips_of(0, (7,)), [(0, 7, 5), (0, 7, 0)], [], [])

    def test_one_race(self):
        slips = slips_of(0, (7,), (3,), (20,))
        self.check(slips, [(0, 7, 10), (0, 3, 10), (0, 20, 10)], [], [("dell", -10), ("hill", 10), ("mill", 0)])

    def test_an_owner_with_several_birds(self):
        slips = slips_of(0, (7,), (3,), (12,))
        stakes = [(0, 7, 10), (0, 3, 10), (0, 12, 10)]
        self.check(slips, stakes, [], [("hill", 0), ("mill", 0)])
        self.check(slips, stakes, [(12, 0, "mill")], [("hill", 10), ("mill", -10)])
        self.check(slips, stakes, [(7, 0, "ann"), (3, 0, "ann"), (12, 0, "ann")], [("ann", 0)])

    def test_a_bird_that_changes_its_owner_between_two_races(self):
        slips = slips_of(0, (7,), (3,)) + slips_of(1, (7,), (3,))
        stakes = [(0, 7, 10), (0, 3, 10), (1, 7, 4), (1, 3, 5)]
        self.check(slips, stakes, [(7, 1, "ann")], [("ann", 2), ("hill", 3), ("mill", -5)])
        self.check(slips, stakes, [(7, 2, "ann")], [("hill", 5), ("mill", -5)])
        self.check(slips, stakes, [(3, 1, "hill")], [("hill", 3), ("mill", -3)])

    def test_a_word_is_one_owner_whether_a_loft_has_it_or_not(self):
        slips = slips_of(0, (7,), (3,))
        self.check(slips, [(0, 7, 10), (0, 3, 11)], [(3, 0, "hill")], [("hill", 0)])

    def test_a_bird_that_is_not_in_the_list(self):
        slips = slips_of(0, (7,), (3,)) + [(0, 12, None), (0, 5, 360)]
        stakes = [(0, 7, 3), (0, 12, 6), (0, 5, 3)]
        self.check(slips, stakes, [], [("hill", 3), ("mill", -3)])

    def test_stakes_that_go_back(self):
        self.check([], [(0, 7, 10), (0, 3, 5), (1, 20, 9)], [], [("dell", 0), ("hill", 0), ("mill", 0)])
        self.check(slips_of(0, (3,)), [(0, 7, 10)], [(7, 0, "ann")], [("ann", 0)])

    def test_owners_without_a_stake_that_counts_have_no_row(self):
        slips = slips_of(0, (7,), (3,))
        stakes = [(0, 7, 10), (0, 3, 5), (0, 3, 0), (1, 20, 0)]
        self.check(slips, stakes, [(5, 0, "ann"), (7, 1, "bob")], [("hill", 0)])

    def test_stakes_told_again(self):
        slips = slips_of(0, (7,), (3,))
        self.check(slips, [(0, 7, 100), (0, 3, 3), (0, 7, 6)], [], [("hill", 0), ("mill", 0)])
        self.check(slips, [(0, 7, 6), (0, 3, 3), (0, 7, 3)], [], [("hill", 1), ("mill", -1)])

    def test_each_race_is_paid_on_its_own(self):
        slips = slips_of(0, (7,), (3,)) + slips_of(2, (3,), (7,)) + slips_of(3, (20,))
        stakes = [(0, 7, 3), (0, 3, 3), (2, 7, 30), (2, 3, 30), (3, 7, 100), (3, 20, 1)]
        self.check(slips, stakes, [], [("dell", 100), ("hill", 1 - 10 - 100), ("mill", -1 + 10)])
        self.check(slips, stakes, [(7, 3, "ann")], [("ann", -100), ("dell", 100), ("hill", -9), ("mill", 9)])

    def test_clocks_and_slips_told_again(self):
        slips = slips_of(0, (7,), (3,)) + [(0, 7, 400)]
        stakes = [(0, 7, 3), (0, 3, 3)]
        self.check(slips, stakes, [], [("hill", -1), ("mill", 1)])
        clocks = CLOCKS + [(0, 0, 300, 900, 1200), (0, 1, 300, 900, 700)]
        self.check(slips, stakes, [], [("hill", 1), ("mill", -1)], clocks=clocks)

    def test_owners_are_sorted_by_their_words(self):
        stakes = [(0, 7, 1), (0, 3, 1), (0, 12, 1), (0, 5, 1)]
        transfers = [(7, 0, "zoe"), (3, 0, "a"), (12, 0, "aa"), (5, 0, "b")]
        self.check([], stakes, transfers, [("a", 0), ("aa", 0), ("b", 0), ("zoe", 0)])

    def test_a_club_with_fewer_birds_than_races(self):
        club = (CLUB[0], ((7, 0, 24),), RACES)
        stakes = [(race, 7, 5) for race in range(4)]
        transfers = [(7, race, "abcd"[race]) for race in range(4)]
        told = accounts(club, CLOCKS, slips_of(3, (7,)), stakes, (1,), transfers)
        self.assertEqual(told, [("a", 0), ("b", 0), ("c", 0), ("d", 0)])

    def test_many_against_the_words(self):
        chance = random.Random(22)
        rings = [7, 3, 12, 5, 20]
        for _ in range(300):
            slips = [(chance.randrange(4), chance.choice(rings), chance.choice([None, 360, 361, 362, 363]))
                     for _ in range(chance.randint(0, 20))]
            stakes = [(chance.randrange(4), chance.choice(rings), chance.choice([0, 1, 7, 10, 1000]))
                      for _ in range(chance.randint(0, 20))]
            transfers = [(chance.choice(rings), chance.randrange(4), chance.choice(["ann", "bob", "hill"]))
                         for _ in range(chance.randint(0, 10))]
            parts = tuple(chance.randint(1, 10) for _ in range(chance.randint(1, 5)))
            sums = {}
            for race, ring, units in counting_stakes(stakes):
                told = [(since, at, owner) for at, (other, since, owner) in enumerate(transfers)
                        if other == ring and since <= race]
                owner = max(told)[2] if told else {7: "hill", 12: "hill", 3: "mill", 5: "mill", 20: "dell"}[ring]
                paid = dict(payments(stakes, parts, race, race_list(CLUB, CLOCKS, slips, race)))
                sums[owner] = sums.get(owner, 0) - units + paid[ring]
            found = accounts(CLUB, CLOCKS, slips, stakes, parts, transfers)
            self.assertEqual(found, sorted(sums.items()))
            self.assertEqual(sum(total for _, total in found), 0)


class Interface(unittest.TestCase):
    def test_arguments_have_the_told_names(self):
        self.assertEqual(owner_in(club=CLUB, transfers=[(7, 1, "ann")], ring=7, race=1), "ann")
        told = accounts(club=CLUB, clocks=CLOCKS, slips=[], stakes=[(0, 7, 1)], parts=(1,), transfers=[])
        self.assertEqual(told, [("hill", 0)])

    def test_arguments_are_not_changed_and_the_list_is_new(self):
        clocks, slips = list(CLOCKS), slips_of(0, (7,), (3,))
        stakes, transfers = [(0, 7, 3), (0, 3, 3)], [(7, 2, "ann"), (7, 1, "bob")]
        first = accounts(CLUB, clocks, slips, stakes, (2, 1), transfers)
        self.assertIs(type(first), list)
        again = list(first)
        first.append(None)
        self.assertEqual(accounts(CLUB, clocks, slips, stakes, (2, 1), transfers), again)
        self.assertEqual((clocks, slips), (CLOCKS, slips_of(0, (7,), (3,))))
        self.assertEqual((stakes, transfers), ([(0, 7, 3), (0, 3, 3)], [(7, 2, "ann"), (7, 1, "bob")]))

    def test_the_kinds_of_values(self):
        for row in accounts(CLUB, CLOCKS, slips_of(0, (7,)), [(0, 7, 3), (0, 3, 3)], (2, 1), []):
            self.assertEqual((type(row), [type(part) for part in row]), (tuple, [str, int]))

    def test_functions_are_defined_in_their_file(self):
        for function in (owner_in, accounts):
            with self.subTest(name=function.__name__):
                self.assertEqual(function.__module__, "homingtrue.ledger")
                self.assertIs(getattr(homingtrue.ledger, function.__name__), function)


if __name__ == "__main__":
    unittest.main()
