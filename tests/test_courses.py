"""Points 2 and 11, and the interface, movedfolders/courses.py."""

import copy
import itertools
import random
import unittest

from movedfolders.courses import course_cost, course_fault, course_for, course_pair, is_course, used_rules
from movedfolders.derivations import THING, derive
from movedfolders.houses import contents
from movedfolders.ledgers import cheapest_chains
from movedfolders.pairs import thing_pairs
from movedfolders.tables import fewest
from tests import oracles
from tests.samples import (
    CUBE, CUBE_RULES, ONE_BY_ONE, ONE_BY_ONE_RULES, SAMPLES, TRAP, TRAP_RULES, changes, disturbed, exchanged, part_at,
    places_in, random_samples,
)
from tests.support import HOUSE, NO_INTEGERS, RULES, TWO, put, strange_values

ROOT = ("root",)
COURSE = ((ROOT, (1, (0,)), (2, (0, 0, 1))), (2,))
EVERY = tuple((item, ((0,), (1,), (2,)), ((0,), (1,), (2,))) for item in range(4))


class Judge(unittest.TestCase):

    def right(self, value, item=3, house=HOUSE, rules=RULES):
        before = copy.deepcopy(value)
        self.assertIs(is_course(house, rules, item, value), True)
        self.assertEqual(value, before)

    def wrong(self, value, item=3, house=HOUSE, rules=RULES):
        self.assertIs(is_course(house, rules, item, value), False)


class RightCourses(Judge):

    def test_the_root_alone(self):
        for item in range(4):
            self.right(((ROOT,), (0,)), item)
            self.right(((ROOT,), (0,)), item, rules=())

    def test_the_example(self):
        for item in range(4):
            self.right(COURSE, item)

    def test_rows_of_each_kind(self):
        for kind in range(3):
            self.right(((ROOT, (kind, (0,))), (1,)))
        self.wrong(((ROOT, (3, (0,))), (1,)))
        self.right(((ROOT, (1, (0,))), (1,)), 2, TWO, ())
        self.wrong(((ROOT, (2, (0,))), (1,)), 2, TWO, ())

    def test_several_root_rows_and_rows_that_are_not_used(self):
        self.right(((ROOT, ROOT, (1, (1,)), ROOT), (2,)))
        self.right(((ROOT, (0, (0,)), (1, (1,)), (2, (0, 0, 2))), (0,)))

    def test_ledgers_of_one_row_to_a_hundred(self):
        for many in (1, 2, 50, 99, 100):
            self.right(((ROOT,) * many, (many - 1,)))
            self.right(((ROOT,) + tuple((k % 3, (k,)) for k in range(many - 1)), (many - 1,)))
            self.wrong(((ROOT,) * many, (many,)))
        self.wrong(((ROOT,) * 101, (0,)))
        self.wrong(((ROOT,) + tuple((k % 3, (k,)) for k in range(100)), (100,)))
        self.wrong(((), (0,)))
        self.wrong(((), ()))

    def test_chains_of_one_row_to_nine(self):
        back = ((3, ((0,),), ((0,),)), (1, ((0,),), ((0,),)))
        for many in range(1, 10):
            self.right(((ROOT,), (0, 0) * (many - 1) + (0,)), rules=back)
            self.right(((ROOT, (1, (0, 1) * (many - 1) + (0,))), (1,)), rules=back)
        for many in (10, 11, 20):
            self.wrong(((ROOT,), (0, 0) * (many - 1) + (0,)), rules=back)
            self.wrong(((ROOT, (1, (0, 1) * (many - 1) + (0,))), (0,)), rules=back)

    def test_each_rule_of_the_item(self):
        self.right(((ROOT, (1, (0,))), (0, 0, 1)), 2)
        for item in (0, 1, 3):
            self.wrong(((ROOT, (1, (0,))), (0, 0, 1)), item)
        rules = RULES + ((3, ((0,),), ((1,),)), (3, ((2,),), ((0,),)))
        self.right(((ROOT, (1, (0,)), (2, (0, 0, 1))), (0, 1, 1)), 3, rules=rules)
        self.right(((ROOT, (1, (0,)), (2, (0, 0, 1))), (2, 2, 0, 1, 1)), 3, rules=rules)
        self.wrong(((ROOT, (1, (0,)), (2, (0, 0, 1))), (2, 2, 0, 0, 1)), 3, rules=rules)


class WrongCourses(Judge):

    def test_no_pairs(self):
        for value in ((), COURSE[:1], COURSE + ((0,),), COURSE + COURSE, list(COURSE), (COURSE,), (COURSE, COURSE)):
            self.wrong(value)
        self.wrong(COURSE[::-1])

    def test_strange_values(self):
        for value in strange_values():
            self.wrong(value)
            self.wrong((value, (0,)))
            self.wrong((COURSE[0], value))
            for k in range(3):
                self.wrong((put(COURSE[0], k, value), (2,)))
                self.wrong((COURSE[0] + (value,), (2,)))
            for k in (1, 2):
                self.wrong((put(COURSE[0], k, put(COURSE[0][k], 1, value)), (2,)))
            if value.__class__ is not int or value not in (0, 1):
                self.wrong((COURSE[0], (value,)))
                self.wrong((put(COURSE[0], 1, (value, (0,))), (2,)))
                for k in range(3):
                    self.wrong((put(COURSE[0], 2, (2, put((0, 0, 1), k, value))), (2,)))

    def test_lists(self):
        ledger, chain = COURSE
        self.wrong((list(ledger), chain))
        self.wrong((ledger, list(chain)))
        for k in range(3):
            self.wrong((put(ledger, k, list(ledger[k])), chain))
        for k in (1, 2):
            self.wrong((put(ledger, k, (ledger[k][0], list(ledger[k][1]))), chain))
        self.wrong(((ledger[0], ["root"]), (0,)))

    def test_rows_that_are_none(self):
        rows = (
            "root", ("Root",), ("root", ()), ("root", (0,)), ("leaf",), (), (0,), ((0,),), (1, (0,), 0), (1, 0), ((0,), 1),
            ("1", (0,)), (None, (0,)), (True, (0,)), (False, (0,)), (-1, (0,)), (3, (0,)), (4, (0,)), (1, ()), (1,),
            (1, (0, 0)), (1, (0, 0, 0, 0)), {}, {1: (0,)}, None, 0, (10 ** 79, (0,)), ((1, (0,)),), (("root",),),
        )
        for row in rows:
            self.wrong(((ROOT, row), (0,)))
            self.wrong(((ROOT, row), (1,)))
            self.wrong(((ROOT, ROOT, row, ROOT), (0,)))

    def test_chains_of_no_parts_and_of_an_even_number(self):
        back = ((3, ((0,),), ((0,),)), (1, ((0,),), ((0,),)))
        for chain in ((), (0, 0), (0, 0, 0, 0), (0, 0) * 8, (0, 0) * 9):
            self.wrong(((ROOT,), chain), rules=back)
            self.wrong(((ROOT, (1, chain)), (0,)), rules=back)

    def test_rows_that_stand_not_before(self):
        self.wrong(((ROOT, (1, (1,))), (0,)))
        self.wrong(((ROOT, (1, (2,)), ROOT), (0,)))
        self.wrong((((1, (0,)), ROOT), (1,)))
        self.wrong(((ROOT, (2, (0, 0, 2)), (1, (0,))), (0,)))
        self.right(((ROOT, (1, (0,)), (2, (0, 0, 1))), (0,)))
        self.wrong(((ROOT, (1, (0,)), (2, (2, 0, 1))), (0,)))

    def test_indices_of_rows(self):
        for index in NO_INTEGERS + (2, 3):
            self.wrong(((ROOT, ROOT), (index,)))
            self.wrong(((ROOT, ROOT, (1, (index,))), (0,)))
            self.wrong(((ROOT, (1, (0,))), (index, 0, 1)), 2)
            self.wrong(((ROOT, (1, (0,))), (0, 0, index)), 2)
            self.wrong(((ROOT, (1, (0,)), (2, (0, 0, index))), (0,)))

    def test_indices_of_rules(self):
        for index in NO_INTEGERS + (1, 2):
            self.wrong(((ROOT, (1, (0,))), (0, index, 1)), 2)
            self.wrong(((ROOT, (1, (0,)), (2, (0, index, 1))), (0,)))
        self.wrong(((ROOT, (1, (0,))), (0, 0, 1)), 2, rules=())

    def test_rules_of_other_items(self):
        for item in range(4):
            rules = ((item, ((0,),), ((1,),)),)
            for other in range(4):
                self.assertIs(is_course(HOUSE, rules, other, ((ROOT, (1, (0,))), (0, 0, 1))), item == other)
                if other < 3:
                    row = (other, (0, 0, 1))
                    self.assertIs(is_course(HOUSE, rules, 3, ((ROOT, (1, (0,)), row), (0,))), item == other)

    def test_from_and_to_that_do_not_fit(self):
        # The rows have the pairs (0, 0), (1, 1), (0, 2), (2, 2).
        ledger = (ROOT, (1, (0,)), (2, (0, 0, 1)), (2, (1,)))
        pairs = (((0,), (0,)), ((1,), (1,)), ((0,), (2,)), ((2,), (2,)))
        for row, pair in enumerate(pairs):
            self.assertEqual(course_pair(HOUSE, RULES, 3, (ledger, (row,))), pair)
        for a, b in itertools.product(contents(HOUSE), repeat=2):
            rules = RULES + ((3, (a,), (b,)), (2, (a,), (b,)))
            for first, second in itertools.product(range(4), repeat=2):
                wanted = pairs[first][1] == a and pairs[second][0] == b
                self.assertIs(is_course(HOUSE, rules, 3, (ledger, (first, 1, second))), wanted)
                self.assertIs(is_course(HOUSE, rules, 3, (ledger, (0, 1, 0, 1, 0))), a == b == (0,))
                more = ledger + ((2, (first, 2, second)),)
                self.assertIs(is_course(HOUSE, rules, 3, (more, (4,))), wanted)
                self.assertIs(is_course(HOUSE, rules, 3, (more, (0,))), wanted)

    def test_any_of_several_contents_of_from_and_to(self):
        for some in (((0,), (1,)), ((1,), (2,)), ((0,), (2,)), ((0,), (1,), (2,))):
            rules = ((3, some, ((0,), (1,), (2,))), (2, ((0,), (1,), (2,)), some))
            ledger = (ROOT, (1, (0,)), (2, (1,)))
            for k in range(3):
                self.assertIs(is_course(HOUSE, rules, 3, (ledger, (k, 0, 0))), (k,) in some)
                self.assertIs(is_course(HOUSE, rules, 2, (ledger, (0, 1, k))), (k,) in some)

    def test_the_last_rule_of_a_chain(self):
        ledger = (ROOT, (1, (0,)))
        rules = ((3, ((0,),), ((0,),)), (3, ((1,),), ((0,),)), (3, ((0,),), ((1,),)), (2, ((0,),), ((0,),)))
        self.right((ledger, (0, 0) * 8 + (0,)), rules=rules)
        self.right((ledger, (0, 0) * 7 + (0, 2, 1)), rules=rules)
        self.wrong((ledger, (0, 0) * 7 + (0, 1, 0)), rules=rules)
        self.wrong((ledger, (0, 0) * 7 + (0, 0, 1)), rules=rules)
        self.wrong((ledger, (0, 0) * 7 + (0, 3, 0)), rules=rules)


class Faults(unittest.TestCase):
    """The faults of point 18 for what has the form of a course."""

    def test_rows_ahead_of_the_chain(self):
        ledger = (ROOT, (1, (0,)), (2, (0, 0, 1)), (2, (1, 0, 1)), (1, (0, 0, 0)))
        self.assertEqual(course_fault(HOUSE, RULES, 3, (ledger, (0, 0, 0))), ("row", 3, ("from", 0)))
        self.assertEqual(course_fault(HOUSE, RULES, 3, (ledger[:3], (0, 0, 0))), ("chain", ("rule", 0)))
        self.assertEqual(course_fault(HOUSE, RULES, 3, (ledger[:2] + ledger[4:], (0,))), ("row", 2, ("rule", 0)))

    def test_rule_from_and_to(self):
        self.assertEqual(course_fault(HOUSE, RULES, 3, (COURSE[0], (1, 0, 0))), ("chain", ("rule", 0)))
        self.assertEqual(course_fault(HOUSE, RULES, 2, (COURSE[0], (1, 0, 0))), ("chain", ("from", 0)))
        self.assertEqual(course_fault(HOUSE, RULES, 2, (COURSE[0], (0, 0, 0))), ("chain", ("to", 0)))
        self.assertEqual(course_fault(HOUSE, RULES, 2, (COURSE[0], (0, 0, 1, 0, 1))), ("chain", ("from", 1)))
        self.assertIsNone(course_fault(HOUSE, RULES, 2, (COURSE[0], (0, 0, 1))))


class PairAndCost(unittest.TestCase):

    def test_the_root(self):
        self.assertEqual(course_pair(HOUSE, RULES, 3, ((ROOT,), (0,))), ((0,), (0,)))
        self.assertEqual(course_cost(HOUSE, RULES, 3, ((ROOT,), (0,))), (0, 0))
        self.assertEqual(course_pair(TWO, (), 0, ((ROOT,), (0,))), ((1, 3), (1, 3)))

    def test_kinds_make_something_of_both_parts(self):
        ledger = COURSE[0] + ((1, (2,)), (0, (2,)), (2, (3,)))
        wanted = (((0,), (0,)), ((1,), (1,)), ((0,), (2,)), ((1,), (2,)), ((0,), (0,)), ((2,), (2,)))
        costs = ((0, 0), (0, 1), (1, 2), (1, 3), (1, 3), (1, 4))
        for k in range(6):
            self.assertEqual(course_pair(HOUSE, RULES, 3, (ledger, (k,))), wanted[k])
            self.assertEqual(course_cost(HOUSE, RULES, 3, (ledger, (k,))), costs[k])

    def test_first_part_of_the_first_row_and_second_part_of_the_last(self):
        rules = RULES + ((3, ((2,),), ((0,), (1,))),)
        ledger = COURSE[0] + ((1, (2,)),)
        self.assertEqual(course_pair(HOUSE, rules, 3, (ledger, (3, 1, 0))), ((1,), (0,)))
        self.assertEqual(course_pair(HOUSE, rules, 3, (ledger, (2, 1, 3))), ((0,), (2,)))
        self.assertEqual(course_pair(HOUSE, rules, 3, (ledger, (3, 1, 2, 1, 1))), ((1,), (1,)))
        self.assertEqual(course_cost(HOUSE, rules, 3, (ledger, (3, 1, 2, 1, 1))), (4, 6))

    def test_rows_count_each_time(self):
        back = ((3, ((0,),), ((0,),)), (0, ((0,),), ((0,),)))
        ledger = (ROOT, (0, (0,)))
        for many in range(1, 10):
            course = (ledger, (1, 0) * (many - 1) + (1,))
            self.assertEqual(course_cost(HOUSE, back, 3, course), (many - 1, many))
            course = (ledger + ((0, (1, 1) * (many - 1) + (1,)),), (2, 0, 2))
            self.assertEqual(course_cost(HOUSE, back, 3, course), (2 * many - 1, 2 * many + 2))

    def test_rows_that_are_not_used_cost_nothing(self):
        self.assertEqual(course_cost(HOUSE, RULES, 3, (COURSE[0], (1,))), (0, 1))
        self.assertEqual(course_cost(HOUSE, RULES, 3, (COURSE[0], (0,))), (0, 0))

    def test_costs_that_double_with_each_row(self):
        back = ((0, ((0,),), ((0,),)),)
        ledger = (ROOT,) + tuple((0, (k, 0, k)) for k in range(99))
        self.assertTrue(is_course(HOUSE, back, 0, (ledger, (99,))))
        for k in (0, 1, 2, 3, 50, 99):
            self.assertEqual(course_cost(HOUSE, back, 0, (ledger, (k,))), (2 ** k - 1, 2 ** k - 1))
        self.assertEqual(course_cost(HOUSE, back, 0, (ledger, (99, 0) * 8 + (99,))), (9 * 2 ** 99 - 1, 9 * 2 ** 99 - 9))
        nine = (ROOT,) + tuple((0, (k, 0) * 8 + (k,)) for k in range(99))
        self.assertTrue(is_course(HOUSE, back, 0, (nine, (99,))))
        moves, things = 0, 0
        for _ in range(99):
            moves, things = 9 * moves + 8, 9 * things + 1
        self.assertEqual(course_cost(HOUSE, back, 0, (nine, (99,))), (moves, things))
        self.assertEqual(course_pair(HOUSE, back, 0, (nine, (99,))), ((0,), (0,)))
        self.assertEqual(used_rules((nine, (99,))), (0,))


class UsedRules(unittest.TestCase):

    def test_the_example(self):
        self.assertEqual(used_rules(COURSE), (0,))
        self.assertEqual(used_rules((COURSE[0], (1,))), ())
        self.assertEqual(used_rules(((ROOT,), (0,))), ())

    def test_in_the_chain_ascending_each_once(self):
        ledger = (ROOT,)
        self.assertEqual(used_rules((ledger, (0, 5, 0, 2, 0, 5, 0, 1, 0))), (1, 2, 5))
        self.assertEqual(used_rules((ledger, (0, 3, 0))), (3,))

    def test_through_rows_directly_or_through_others(self):
        ledger = (ROOT, (0, (0, 4, 0)), (1, (1,)), (1, (2, 1, 0)), (0, (0, 3, 0)), (2, (0, 2, 0, 0, 3)))
        self.assertEqual(used_rules((ledger, (0,))), ())
        self.assertEqual(used_rules((ledger, (1,))), (4,))
        self.assertEqual(used_rules((ledger, (2,))), (4,))
        self.assertEqual(used_rules((ledger, (3,))), (1, 4))
        self.assertEqual(used_rules((ledger, (4,))), (3,))
        self.assertEqual(used_rules((ledger, (5,))), (0, 1, 2, 4))
        self.assertEqual(used_rules((ledger, (4, 5, 2))), (3, 4, 5))
        self.assertEqual(used_rules((ledger, (2, 5, 0))), (4, 5))

    def test_indices_of_rows_are_no_rules(self):
        ledger = (ROOT, ROOT, ROOT, (0, (2,)), (0, (3, 0, 1)))
        self.assertEqual(used_rules((ledger, (4,))), (0,))
        self.assertEqual(used_rules((ledger, (3,))), ())

    def test_against_the_words_of_the_document(self):
        rng = random.Random(41)
        for _ in range(300):
            ledger = [ROOT]
            for k in range(1, rng.randrange(2, 9)):
                ledger.append(rng.choice((ROOT, (0, self.chain(rng, k)), (0, self.chain(rng, k)))))
            course = (tuple(ledger), self.chain(rng, len(ledger)))
            self.assertEqual(used_rules(course), oracles.used_in(course))

    def chain(self, rng, many):
        links = (rng.randrange(many),)
        for _ in range(rng.randrange(3)):
            links += (rng.randrange(6), rng.randrange(many))
        return links


class CourseFor(unittest.TestCase):

    def check(self, house, rules, item, a, b):
        course = course_for(house, rules, item, a, b)
        self.assertTrue(is_course(house, rules, item, course))
        self.assertIsNotNone(oracles.judged_course(house, rules, item, course))
        self.assertEqual(course_pair(house, rules, item, course), (a, b))
        self.assertEqual(course_cost(house, rules, item, course), fewest(house, rules, item, a, b))
        return course

    def test_without_moves(self):
        self.assertEqual(course_for(HOUSE, RULES, 3, (0,), (0,)), ((ROOT,), (0,)))
        self.assertEqual(used_rules(self.check(HOUSE, RULES, 0, (2,), (2,))), ())

    def test_none_for_no_thing_pair(self):
        self.assertIsNone(course_for(HOUSE, RULES, 3, (0,), (1,)))
        self.assertIsNone(course_for(HOUSE, RULES, 2, (2,), (0,)))
        self.assertIsNone(course_for(HOUSE, (), 2, (0,), (1,)))
        self.assertIsNone(course_for(TWO, (), 2, (0, 0), (0, 0)))

    def test_the_trap(self):
        course = self.check(TRAP, TRAP_RULES, 5, (0,), (2,))
        self.assertEqual(used_rules(course), (0, 1, 2))

    def test_one_by_one(self):
        course = self.check(ONE_BY_ONE, ONE_BY_ONE_RULES, 5, (0,), (7,))
        self.assertEqual(course[1][1::2], (0, 1, 2, 3, 4))
        self.assertEqual(len(course[0]), 6)

    def test_seven_rules_in_one_chain(self):
        # The most that a cheapest chain can have in a house of eight contents.
        house = ((8,), (0,), tuple((("raise", 0, v), ("when", 0, v, v, ("set", 0, v))) for v in (1, 2, 3, 4)) + (
            (("when", 0, 1, 1, ("set", 0, 5)), ("when", 0, 2, 2, ("set", 0, 6)), ("when", 0, 3, 3, ("set", 0, 7))),))
        order = (0, 5, 1, 6, 2, 7, 3, 4)
        steps = [(5, ((a,),), ((b,),)) for a, b in zip(order, order[1:])]
        self.assertEqual(self.check(house, tuple(steps), 5, (0,), (4,))[1][1::2], (0, 1, 2, 3, 4, 5, 6))

    def test_for_every_thing_pair(self):
        some = random_samples(200)
        for house, rules in list(SAMPLES) + [(CUBE, CUBE_RULES[:2]), (HOUSE, EVERY)] + some[:40]:
            for item in range(len(house[2]) + 1):
                pairs = thing_pairs(house, rules, item)
                for a, b in itertools.product(contents(house), repeat=2):
                    if (a, b) in pairs:
                        self.check(house, rules, item, a, b)
                    else:
                        self.assertIsNone(course_for(house, rules, item, a, b))

    def test_several_chains_of_one_ledger(self):
        for house, rules in list(SAMPLES) + [(CUBE, CUBE_RULES)] + random_samples(60):
            found = derive(house, rules)
            keys = [key for key in found if key[0] == THING]
            ledger, chains = cheapest_chains(found, keys)
            self.assertLessEqual(len(ledger), 64)
            for (_, item, a, b), chain in zip(keys, chains):
                judged = oracles.judged_course(house, rules, item, (ledger, chain))
                self.assertEqual(judged, ((a, b), found[THING, item, a, b][0]))


class AnyCourses(unittest.TestCase):

    def agree(self, house, rules, item, value):
        judged = oracles.judged_course(house, rules, item, value)
        self.assertIs(is_course(house, rules, item, value), judged is not None)
        if judged is not None:
            self.assertEqual(course_pair(house, rules, item, value), judged[0])
            self.assertEqual(course_cost(house, rules, item, value), judged[1])
            self.assertEqual(used_rules(value), oracles.used_in(value))
        return judged is not None

    def test_every_change_of_every_part(self):
        found = []
        rules = RULES + ((3, ((0,), (2,)), ((0,), (1,))), (2, ((1,),), ((0,), (2,))))
        course = (COURSE[0] + ((2, (1, 2, 2)), ROOT, (1, (3,))), (2, 1, 5))
        for item in range(4):
            for at in places_in(course):
                for change in changes(part_at(course, at), [0, 1, 2, 3, ROOT, (0,), (1, (0,))]):
                    found.append(self.agree(HOUSE, rules, item, exchanged(course, at, change)))
        self.assertGreater(found.count(True), 20)
        self.assertGreater(found.count(False), 500)

    def test_a_little_wrong(self):
        rng = random.Random(43)
        found = []
        for house, rules in list(SAMPLES) * 8 + [(HOUSE, EVERY)] * 10 + random_samples(60):
            item = rng.randrange(len(house[2]) + 1)
            for a, b in thing_pairs(house, rules, item):
                course = course_for(house, rules, item, a, b)
                for times in (1, 1, 2, 3):
                    found.append(self.agree(house, rules, item, disturbed(rng, course, times)))
                other = rng.randrange(len(house[2]) + 1)
                found.append(self.agree(house, rules, other, course))
                found.append(self.agree(house, rules[::-1], item, course))
                found.append(self.agree(house, rules[1:], item, course))
        self.assertGreater(found.count(True), 500)
        self.assertGreater(found.count(False), 500)


if __name__ == "__main__":
    unittest.main()
