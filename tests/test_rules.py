"""Points 2 and 6, and the interface, movedfolders/rules.py."""

import copy
import itertools
import unittest

from movedfolders.errors import InvalidRules
from movedfolders.houses import contents
from movedfolders.kinds import come_to
from movedfolders.rules import require_rules
from tests.support import HOUSE, NO_INTEGERS, RULES, THREE, TWO, put, strange_values

RIGHT = (2, ((0, 1), (1, 3)), ((1, 0),))


def fault(house, value):
    """Return the index that require_rules tells to be wrong."""
    try:
        require_rules(house, value)
    except InvalidRules as e:
        return e.index
    return "right"


def wrong_contents():
    """Return what is no strictly ascending tuple of contents of (2, 4), not ()."""
    found = [
        (), [], [(0, 0)], {}, {(0, 0): 0}, None, 0, True, "", "00", (0, 0), (0,), ((),), ((0,),), ((0, 0, 0),),
        ((0, 1), (0, 0)), ((1, 0), (0, 3)), ((0, 0), (0, 0)), ((0, 0), (0, 1), (0, 1)), ((0, 0), (0, 2), (0, 1)),
        ((1, 3), (0, 0)), ((2, 0),), ((0, 4),), ((0, 0), (0, 4)), ((0, 0), (2, 0)), ([0, 0],), ((0, 0), [0, 1]),
        ((0, 0), None), (None, (0, 0)), ("00",), ((0, 0), "01"), (((0, 0),),), ((0, 0),) * 400000,
        tuple(contents(TWO)) + ((0, 0),), tuple(contents(TWO))[::-1],
    ]
    for part in NO_INTEGERS + (4,):
        found += [((part, 0),), ((0, part),), ((0, 0), (part, 3)), ((0, 0), (1, part))]
    return found + strange_values()


def wrong_rules():
    """Return what is no rule of TWO, each wrong in one part."""
    found = [put(RIGHT, 0, item) for item in NO_INTEGERS + (3, 4)]
    for part in wrong_contents():
        found += [put(RIGHT, 1, part), put(RIGHT, 2, part)]
    found += [(), RIGHT[:1], RIGHT[:2], RIGHT + ((),), RIGHT + (0,), list(RIGHT), (RIGHT,), [RIGHT], (RIGHT,) * 3]
    return found + strange_values()


class RightRules(unittest.TestCase):

    def check(self, house, rules):
        before = copy.deepcopy(rules)
        self.assertIs(require_rules(house, rules), rules)
        self.assertEqual(rules, before)

    def test_no_rules_to_six(self):
        for many in range(7):
            self.check(TWO, (RIGHT,) * many)
            self.check(HOUSE, RULES * many)

    def test_each_item(self):
        for house in (HOUSE, TWO, THREE, ((2,), (0,), ((),)), ((2,), (0,), ((),) * 5)):
            some = contents(house)[:1]
            for item in range(len(house[2]) + 1):
                self.check(house, ((item, some, some),))
            self.assertEqual(fault(house, ((len(house[2]) + 1, some, some),)), 0)

    def test_all_ascending_tuples_of_contents(self):
        for house in (HOUSE, TWO, THREE):
            for many in range(1, len(contents(house)) + 1):
                for some in itertools.combinations(contents(house), many):
                    self.check(house, ((0, some, contents(house)), (1, contents(house)[:1], some)))

    def test_contents_that_come_about_nowhere(self):
        self.assertNotIn((0, 0), come_to(TWO))
        self.check(TWO, ((2, ((0, 0),), ((0, 1),)),))


class WrongRules(unittest.TestCase):

    def test_no_tuple_of_at_most_six(self):
        wrong = [(RIGHT,) * 7, (RIGHT,) * 400000, [RIGHT], [], {}, {0: RIGHT}, None, 0, 1, True, "", "rules"]
        for at, value in enumerate(wrong):
            with self.subTest(at):
                self.assertIsNone(fault(TWO, value))

    def test_seven_are_told_ahead_of_a_wrong_one(self):
        self.assertIsNone(fault(TWO, (None,) * 7))
        self.assertEqual(fault(TWO, (None,) * 6), 0)

    def test_strange_values(self):
        for at, value in enumerate(strange_values()):
            with self.subTest(at):
                short = isinstance(value, tuple) and len(value) <= 6
                self.assertEqual(fault(TWO, value), 0 if short else None)

    def test_each_part_wrong(self):
        for at, rule in enumerate(wrong_rules()):
            with self.subTest(at):
                self.assertEqual(fault(TWO, (rule,)), 0)
                self.assertEqual(fault(TWO, (rule, RIGHT)), 0)
                self.assertEqual(fault(TWO, (RIGHT, rule)), 1)
                self.assertEqual(fault(TWO, (RIGHT,) * 5 + (rule,)), 5)
                self.assertEqual(fault(TWO, (RIGHT, RIGHT, rule, RIGHT, rule)), 2)

    def test_the_first_wrong_index(self):
        for row in itertools.product((RIGHT, put(RIGHT, 0, True)), repeat=6):
            wanted = next((k for k, rule in enumerate(row) if rule is not RIGHT), "right")
            self.assertEqual(fault(TWO, row), wanted)

    def test_contents_of_another_house(self):
        self.assertEqual(fault(HOUSE, RULES + ((2, ((3,),), ((0,),)),)), 1)
        self.assertEqual(fault(HOUSE, RULES + ((2, ((0,),), ((0, 0),)),)), 1)
        self.assertEqual(fault(TWO, RULES), 0)
        self.assertEqual(fault(THREE, RULES), 0)

    def test_wrong_values_are_not_modified(self):
        for value in ([RIGHT], ([2, [(0, 0)], ((0, 0),)],), ((2, [(0, 0)], ((0, 0),)),), ((2, ([0, 0],), ((0, 0),)),)):
            before = copy.deepcopy(value)
            fault(TWO, value)
            self.assertEqual(value, before)


if __name__ == "__main__":
    unittest.main()
