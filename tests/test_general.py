"""Point 2: what holds for all calls of houses.py, kinds.py and rules.py."""

import copy
import importlib
import inspect
import unittest

from movedfolders.errors import InvalidHouse, InvalidRules
from movedfolders.houses import contents, require_house
from movedfolders.kinds import after, come_to, kind_table, row_to
from movedfolders.rules import require_rules
from tests.support import HOUSE, RULES, THREE, TWO

INTERFACE = (
    ("movedfolders.houses", "require_house", ("value",)),
    ("movedfolders.houses", "contents", ("house",)),
    ("movedfolders.kinds", "after", ("house", "content", "kinds")),
    ("movedfolders.kinds", "kind_table", ("house",)),
    ("movedfolders.kinds", "come_to", ("house",)),
    ("movedfolders.kinds", "row_to", ("house", "content")),
    ("movedfolders.rules", "require_rules", ("house", "value")),
)

SOME_RULES = (
    (HOUSE, RULES),
    (TWO, ((2, ((0, 1), (1, 3)), ((1, 0),)),)),
    (THREE, ((0, ((0, 0, 0),), ((1, 1, 1),)), (2, ((0, 0, 1),), ((0, 1, 0),)))),
)


def calls(house, rules):
    """Return calls for a house, each as (function, arguments by name)."""
    found = [
        (require_house, {"value": house}), (contents, {"house": house}), (kind_table, {"house": house}),
        (come_to, {"house": house}), (require_rules, {"house": house, "value": rules}),
    ]
    for content in contents(house):
        found.append((row_to, {"house": house, "content": content}))
        found.append((after, {"house": house, "content": content, "kinds": (1, 0, 1)}))
    return found


class AllCalls(unittest.TestCase):

    def test_defined_where_the_interface_lists_them(self):
        for module, name, parameters in INTERFACE:
            told = getattr(importlib.import_module(module), name)
            self.assertEqual(told.__module__, module)
            self.assertEqual(tuple(inspect.signature(told).parameters), parameters)

    def test_by_position_and_by_name(self):
        for house, rules in SOME_RULES:
            for told, arguments in calls(house, rules):
                backwards = dict(reversed(list(arguments.items())))
                wanted = told(*arguments.values())
                self.assertEqual(told(**arguments), wanted)
                self.assertEqual(told(**backwards), wanted)

    def test_errors_by_name(self):
        with self.assertRaises(InvalidHouse) as caught:
            require_house(value=[HOUSE])
        self.assertIsNone(caught.exception.part)
        with self.assertRaises(InvalidRules) as caught:
            require_rules(value=[RULES], house=HOUSE)
        self.assertIsNone(caught.exception.index)

    def test_arguments_are_unchanged(self):
        for house, rules in SOME_RULES:
            for told, arguments in calls(house, rules):
                before = copy.deepcopy(arguments)
                told(**arguments)
                self.assertEqual(arguments, before)

    def test_the_same_answers_when_other_houses_were_asked_in_between(self):
        wanted = [[told(**arguments) for told, arguments in calls(*one)] for one in SOME_RULES]
        # The same kinds with another begin, and the same begin with other kinds.
        near = ((TWO[0], (0, 0), TWO[2]), (TWO[0], TWO[1], TWO[2][::-1]), (HOUSE[0], (2,), HOUSE[2]))
        for _ in range(2):
            for at, one in enumerate(SOME_RULES):
                for other in near:
                    for told, arguments in calls(other, ()):
                        told(**arguments)
                self.assertEqual([told(**arguments) for told, arguments in calls(*one)], wanted[at])

    def test_equal_houses_get_equal_answers(self):
        for house, rules in SOME_RULES:
            other = copy.deepcopy(house)
            for (told, arguments), (same, others) in zip(calls(house, rules), calls(other, copy.deepcopy(rules))):
                self.assertEqual(told(**arguments), same(**others))

    def test_answers_are_tuples_throughout(self):
        for house, rules in SOME_RULES:
            for told, arguments in calls(house, rules):
                answer = told(**arguments)
                if answer is not None:
                    self.assertIs(answer.__class__, tuple)
                    parts = [part for part in answer if not isinstance(part, int)]
                    self.assertEqual([part for part in parts if part.__class__ is not tuple], [])


if __name__ == "__main__":
    unittest.main()
