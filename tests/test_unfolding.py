"""Points 2 and 12, and the interface, movedfolders/unfolding.py."""

import copy
import itertools
import random
import unittest

from movedfolders.courses import course_cost, course_for, course_pair
from movedfolders.errors import LimitExceeded
from movedfolders.pairs import thing_pairs
from movedfolders.trees import contents_of, played, require_tree
from movedfolders.unfolding import unfold
from tests import oracles
from tests.samples import (
    CUBE, CUBE_RULES, ONE_BY_ONE, ONE_BY_ONE_RULES, SAMPLES, STAIRS, STAIRS_RULES, TRAP, TRAP_RULES, random_samples,
)
from tests.support import HOUSE, RULES

ROOT = ("root",)
COURSE = ((ROOT, (1, (0,)), (2, (0, 0, 1))), (2,))
# Folders that shut, and leaves, go from what is shut to what is shut.
BACK = ((3, ((0,),), ((0,),)), (0, ((0,),), ((0,),)))


def deep_rows(many):
    """Return a ledger in which the row k has k things and no moves."""
    return (ROOT,) + tuple((0, (k,)) for k in range(many))


def ledger_with_moves(many):
    """Return a ledger whose last row has so many moves, and not many things."""
    ledger, rows = [ROOT], {}

    def row_with(moves):
        if moves not in rows:
            if moves <= 8:
                chain = (0, 1) * moves + (0,)
            else:
                chain = (row_with((moves - 1) // 2), 1, row_with(moves - 1 - (moves - 1) // 2))
            ledger.append((0, chain))
            rows[moves] = len(ledger) - 1
        return rows[moves]

    row_with(many)
    return tuple(ledger)


class Unfolded(unittest.TestCase):

    def check(self, course, item=3, house=HOUSE, rules=RULES):
        before = copy.deepcopy(course)
        answer = unfold(house, rules, item, course)
        self.assertEqual(course, before)
        self.assertIs(answer.__class__, tuple)
        tree, thing, moves = answer
        self.assertIs(thing.__class__, int)
        self.assertIs(moves.__class__, tuple)
        self.assertEqual(require_tree(house, tree), tree)
        self.assertEqual(tree[thing][0], item)
        a, b = course_pair(house, rules, item, course)
        self.assertEqual(contents_of(house, tree)[thing], a)
        behind = played(house, rules, tree, moves)
        self.assertIsNotNone(behind)
        self.assertEqual(contents_of(house, behind)[thing], b)
        self.assertEqual((len(moves), len(tree) - 1), course_cost(house, rules, item, course))
        self.assertIsNone(oracles.unfolded_fault(house, rules, item, course, answer))
        return answer

    def refused(self, course, item=3, house=HOUSE, rules=BACK):
        with self.assertRaises(LimitExceeded) as caught:
            unfold(house, rules, item, course)
        self.assertEqual(caught.exception.limit, 200)


class CoursesByHand(Unfolded):

    def test_the_root_alone(self):
        for item in range(4):
            self.assertEqual(self.check(((ROOT,), (0,)), item), (((item, -1),), 0, ()))

    def test_the_example(self):
        for item in range(4):
            self.check(COURSE, item)

    def test_a_path_without_moves(self):
        course = ((ROOT, (1, (0,)), (2, (1,)), (0, (2,))), (3,))
        tree, thing, moves = self.check(course)
        self.assertEqual(moves, ())
        self.assertEqual([tree[k][0] for k in oracles.above_all(tree, thing)], [3, 0, 2, 1])

    def test_moves_of_the_thing_itself(self):
        rules = RULES + ((3, ((0,), (2,)), ((0,), (1,))),)
        ledger = (ROOT, (1, (0,)), (2, (0, 0, 1)))
        self.check((ledger, (0, 1, 1)), 3, HOUSE, rules)
        self.check((ledger, (2, 1, 0, 1, 2, 1, 1)), 3, HOUSE, rules)

    def test_the_thing_is_a_folder_like_others_of_its_course(self):
        ledger = (ROOT, (1, (0,)), (2, (0, 0, 1)))
        self.check((ledger, (0, 0, 1)), 2)
        self.check((ledger + ((1, (2,)),), (0, 0, 3)), 2)

    def test_rows_used_more_than_once(self):
        rules = RULES + ((3, ((2,), (0,)), ((0,), (1,))),)
        for times in range(1, 10):
            course = ((ROOT, (1, (0,)), (2, (0, 0, 1))), (2, 1) * (times - 1) + (2,))
            tree, _, moves = self.check(course, 3, HOUSE, rules)
            self.assertEqual((len(tree), len(moves)), (2 * times + 1, 2 * times - 1))

    def test_rows_used_by_several_rows(self):
        ledger = (ROOT, (0, (0,)), (0, (1, 1, 1)), (0, (2, 1, 1, 1, 2)))
        self.check((ledger, (3, 0, 2, 0, 3)), 3, HOUSE, BACK)

    def test_rows_that_are_not_used(self):
        rows = (ROOT, ROOT, (1, (1,)), (1, (0,)), (2, (0, 0, 3)), (0, (4,)))
        for k in range(len(rows)):
            self.check((rows, (k,)))

    def test_moves_into_the_root(self):
        ledger = (ROOT, (0, (0,)), (0, (1, 1, 0)), (0, (0, 1, 2)))
        self.check((ledger, (3, 0, 0)), 3, HOUSE, BACK)
        self.check((ledger, (0, 0, 0, 0, 0)), 3, HOUSE, BACK)

    def test_courses_for_every_pair(self):
        some = [(TRAP, TRAP_RULES), (STAIRS, STAIRS_RULES), (ONE_BY_ONE, ONE_BY_ONE_RULES), (CUBE, CUBE_RULES[:2])]
        for house, rules in list(SAMPLES) + some + random_samples(60):
            for item in range(len(house[2]) + 1):
                for a, b in thing_pairs(house, rules, item):
                    self.check(course_for(house, rules, item, a, b), item, house, rules)

    def test_courses_made_anyhow(self):
        rng = random.Random(12)
        rules = RULES + BACK + ((1, ((0,), (2,)), ((0,), (1,), (2,))),)
        done = 0
        for _ in range(400):
            ledger = [ROOT]
            for k in range(1, rng.randrange(2, 7)):
                row = (rng.randrange(3), self.chain(rng, k))
                ledger.append(row if oracles.judged_course(HOUSE, rules, row[0], (tuple(ledger), row[1])) else ROOT)
            item, chain = rng.randrange(4), self.chain(rng, len(ledger))
            judged = oracles.judged_course(HOUSE, rules, item, (tuple(ledger), chain))
            if judged is not None and max(judged[1]) < 200:
                self.check((tuple(ledger), chain), item, HOUSE, rules)
                done += 1
        self.assertGreater(done, 100)

    def chain(self, rng, many):
        links = (rng.randrange(many),)
        for _ in range(rng.randrange(3)):
            links += (rng.randrange(4), rng.randrange(many))
        return links


class Limits(Unfolded):

    def test_moves(self):
        for many in (198, 199, 200):
            ledger = ledger_with_moves(many)
            course = (ledger, (len(ledger) - 1,))
            self.assertEqual(course_cost(HOUSE, BACK, 3, course)[0], many)
            self.check(course, 3, HOUSE, BACK)
        for many in (201, 202, 300):
            ledger = ledger_with_moves(many)
            self.refused((ledger, (len(ledger) - 1,)))

    def test_moves_of_the_thing_count(self):
        ledger = ledger_with_moves(198)
        last = len(ledger) - 1
        self.check((ledger, (last, 0, 0)), 3, HOUSE, BACK)
        self.check((ledger, (last, 0, 0, 0, 0)), 3, HOUSE, BACK)
        self.refused((ledger, (last, 0, 0, 0, 0, 0, 0)))

    def test_things(self):
        ledger = deep_rows(99)
        for chain, many in (((99, 0, 99), 199), ((99, 0, 99, 0, 1), 200), ((99,), 100), ((66, 0, 67, 0, 66), 200)):
            tree, _, _ = self.check((ledger, chain), 3, HOUSE, BACK)
            self.assertEqual(len(tree), many)
        for chain in ((99, 0, 99, 0, 2), (99, 0, 2, 0, 99), (67, 0, 67, 0, 66), (99, 0, 99, 0, 99)):
            self.refused((ledger, chain))

    def test_both(self):
        ledger = ledger_with_moves(201)
        deep = tuple((0, (len(ledger) - 1 + k,)) for k in range(90))
        self.refused((ledger + deep, (len(ledger) + 89, 0, len(ledger) + 89)))

    def test_many_of_both(self):
        twice = (ROOT,) + tuple((0, (k, 1, k)) for k in range(99))
        for k in range(8):
            tree, _, moves = self.check((twice, (k,)), 3, HOUSE, BACK)
            self.assertEqual((len(tree), len(moves)), (2 ** k, 2 ** k - 1))
        for k in (8, 9, 20, 50, 99):
            self.refused((twice, (k,)))
        nine = (ROOT,) + tuple((0, (k, 1) * 8 + (k,)) for k in range(99))
        self.assertGreater(min(course_cost(HOUSE, BACK, 3, (nine, (99,)))), 10 ** 90)
        for chain in ((99,), (99, 0, 99), (98, 0) * 8 + (99,), (3,)):
            self.refused((nine, chain))

    def test_rows_that_cost_much_but_are_not_used(self):
        nine = (ROOT,) + tuple((0, (k, 1) * 8 + (k,)) for k in range(99))
        for chain in ((0,), (1,), (2,), (1, 0, 2)):
            self.check((nine, chain), 3, HOUSE, BACK)


class General(unittest.TestCase):

    def test_by_names(self):
        for names in itertools.permutations(("house", "rules", "item", "course")):
            values = {"house": HOUSE, "rules": RULES, "item": 3, "course": COURSE}
            self.assertEqual(unfold(**{name: values[name] for name in names}), unfold(HOUSE, RULES, 3, COURSE))


if __name__ == "__main__":
    unittest.main()
