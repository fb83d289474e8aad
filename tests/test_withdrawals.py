"""Points 2 and 15, and the interface, movedfolders/withdrawals.py."""

import copy
import itertools
import random
import unittest

from movedfolders.houses import contents
from movedfolders.withdrawals import cheapest, is_good, least_price
from tests import oracles
from tests.samples import CUBE, SAMPLES, TRAP, TRAP_RULES, random_samples, random_task
from tests.support import HOUSE, RULES

LEAK = (3, ((0,),), ((2,),))
WISH = (2, (0,), (1,))
# Three ways into 1 for the wide folder, and one for the leaf.
MANY = RULES + RULES + ((2, ((0,), (2,)), ((1,), (2,))), (3, ((0,),), ((1,),)))


class Withdrawals(unittest.TestCase):

    def check(self, house, rules, task):
        """Compare all three functions with what the words of the document tell; return the least price."""
        before = copy.deepcopy((house, rules, task))
        good = []
        for withdrawal in oracles.withdrawals_of(rules):
            wanted = oracles.is_met(house, rules, task, withdrawal)
            self.assertIs(is_good(house, rules, task, withdrawal), wanted)
            if wanted:
                good.append(withdrawal)
        price = least_price(house, rules, task)
        found = cheapest(house, rules, task)
        self.assertEqual((house, rules, task), before)
        if not good:
            self.assertIsNone(price)
            self.assertIsNone(found)
            return None
        self.assertIs(price.__class__, int)
        self.assertEqual(price, min(oracles.price_of(task, withdrawal) for withdrawal in good))
        self.assertIn(found, good)
        self.assertEqual(list(found), sorted(set(found)))
        self.assertEqual(oracles.price_of(task, found), price)
        return price


class ByHand(Withdrawals):

    def test_the_example(self):
        self.assertEqual(least_price(HOUSE, RULES, ((LEAK,), (), (5,))), 5)
        self.assertEqual(cheapest(HOUSE, RULES, ((LEAK,), (), (5,))), (0,))
        self.assertIsNone(cheapest(HOUSE, RULES, ((LEAK,), (WISH,), (5,))))
        self.assertIsNone(least_price(HOUSE, RULES, ((LEAK,), (WISH,), (5,))))

    def test_nothing_and_all_withdrawn(self):
        task = ((LEAK,), (), (5,))
        self.assertIs(is_good(HOUSE, RULES, task, ()), False)
        self.assertIs(is_good(HOUSE, RULES, task, (0,)), True)
        wish = ((), (WISH,), (5,))
        self.assertIs(is_good(HOUSE, RULES, wish, ()), True)
        self.assertIs(is_good(HOUSE, RULES, wish, (0,)), False)
        self.assertIs(is_good(HOUSE, (), ((), (), ()), ()), True)
        self.assertIs(is_good(HOUSE, (), ((), (WISH,), ()), ()), False)

    def test_nothing_need_be_withdrawn(self):
        self.assertEqual(cheapest(HOUSE, RULES, ((), (), (1,))), ())
        self.assertEqual(cheapest(HOUSE, RULES, ((), (WISH,), (99,))), ())
        self.assertEqual(least_price(HOUSE, RULES, ((), (WISH,), (99,))), 0)
        self.assertEqual(cheapest(HOUSE, (), ((LEAK,), (), ())), ())
        self.assertEqual(cheapest(HOUSE, MANY, ((), (WISH,), (1, 2, 3, 4))), ())

    def test_each_rule_alone_and_several(self):
        for prices in ((1, 1, 1, 1), (5, 3, 2, 1), (0, 9, 0, 9), (99, 99, 99, 99)):
            self.check(HOUSE, MANY, ((LEAK,), (), prices))
            self.check(HOUSE, MANY, ((LEAK,), ((3, (0,), (1,)),), prices))
            self.check(HOUSE, MANY, (((2, ((0,),), ((2,),)),), (WISH,), prices))

    def test_equal_rules_are_withdrawn_one_by_one(self):
        rules = RULES * 3
        task = ((LEAK,), (), (1, 2, 4))
        for withdrawal in oracles.withdrawals_of(rules):
            self.assertIs(is_good(HOUSE, rules, task, withdrawal), withdrawal == (0, 1, 2))
        self.assertEqual(self.check(HOUSE, rules, task), 7)
        self.assertEqual(cheapest(HOUSE, rules, task), (0, 1, 2))

    def test_the_others_keep_their_indices(self):
        rules = ((3, ((1,),), ((2,),)),) + RULES
        self.assertEqual(cheapest(HOUSE, rules, (((2, ((0,),), ((1,),)),), (), (1, 50))), (1,))
        self.assertEqual(cheapest(HOUSE, rules, (((3, ((1,),), ((2,),)), (2, ((0,),), ((1,),))), (), (1, 50))), (0, 1))

    def test_the_trap(self):
        leaks = ((5, ((0,),), ((2,),)),)
        self.assertEqual(self.check(TRAP, TRAP_RULES, (leaks, (), (7, 5, 6))), 5)
        self.assertEqual(cheapest(TRAP, TRAP_RULES, (leaks, (), (7, 5, 6))), (1,))
        self.assertEqual(self.check(TRAP, TRAP_RULES, (leaks, ((5, (1,), (2,)),), (7, 5, 6))), 6)

    def test_prices_of_0(self):
        for prices in itertools.product((0, 3), repeat=4):
            self.check(HOUSE, MANY, ((LEAK,), (), prices))
            self.check(HOUSE, MANY, ((LEAK,), (WISH,), prices))
            self.assertEqual(self.check(HOUSE, MANY, ((), (), prices)), 0)

    def test_the_highest_price(self):
        rules = ((3, ((0,),), ((1,),)),) * 6
        self.assertEqual(self.check(HOUSE, rules, (((3, ((0,),), ((1,),)),), (), (99,) * 6)), 594)

    def test_several_leaks_and_wishes(self):
        rules = ((3, ((0,),), ((1,),)), (3, ((0,),), ((2,),)), (3, ((1,),), ((2,),)), (3, ((2,),), ((0,),)))
        leaks = ((3, ((1,),), ((0,),)), (3, ((2,),), ((1,),)))
        for many in range(3):
            for wishes in ((), ((3, (0,), (2,)),), ((3, (0,), (2,)), (3, (1,), (2,))), ((3, (2,), (0,)),)):
                self.check(HOUSE, rules, (leaks[:many], wishes, (4, 3, 2, 1)))


class Anyhow(Withdrawals):

    def test_against_all_withdrawals_tried_one_by_one(self):
        rng = random.Random(16)
        found = []
        some = [(house, rules[:5]) for house, rules in list(SAMPLES) * 4 + random_samples(90)]
        for house, rules in some:
            found.append(self.check(house, rules, random_task(rng, house, rules)))
        self.assertGreater(len(set(found)), 4)
        self.assertGreater(found.count(None), 20)

    def test_six_rules_over_a_dense_house(self):
        every = contents(CUBE)
        rules = tuple((item, every[:4], every) for item in range(6))
        task = (((5, every[:1], every[7:]),), ((4, every[0], every[3]),), (3, 1, 4, 1, 5, 9))
        price = least_price(CUBE, rules, task)
        found = cheapest(CUBE, rules, task)
        self.assertEqual(oracles.price_of(task, found), price)
        self.assertTrue(oracles.is_met(CUBE, rules, task, found))

    def test_nothing_is_remembered(self):
        one, other = ((LEAK,), (), (5,)), ((LEAK,), (WISH,), (5,))
        for _ in range(2):
            self.assertEqual(least_price(HOUSE, RULES, one), 5)
            self.assertIsNone(least_price(HOUSE, RULES, other))
            self.assertEqual(least_price(HOUSE, RULES * 2, ((LEAK,), (), (5, 6))), 11)
            self.assertEqual(least_price(HOUSE, (), ((LEAK,), (), ())), 0)
            self.assertEqual(least_price(TRAP, TRAP_RULES, (((5, ((0,),), ((2,),)),), (), (3, 5, 4))), 3)

    def test_by_names(self):
        task = ((LEAK,), (), (5,))
        values = {"house": HOUSE, "rules": RULES, "task": task}
        for names in itertools.permutations(values):
            some = {name: values[name] for name in names}
            self.assertEqual(least_price(**some), 5)
            self.assertEqual(cheapest(**some), (0,))
            self.assertIs(is_good(withdrawal=(0,), **some), True)
            self.assertIs(is_good(**some, withdrawal=()), False)


if __name__ == "__main__":
    unittest.main()
