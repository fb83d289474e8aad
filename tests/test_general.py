"""Point 2: what holds for all calls of the functions that the interface lists."""

import copy
import importlib
import inspect
import unittest

from movedfolders.courses import course_cost, course_for, course_pair, is_course, used_rules
from movedfolders.errors import InvalidHouse, InvalidRules, InvalidTask, InvalidTree
from movedfolders.forecasts import forecast
from movedfolders.houses import contents, require_house
from movedfolders.kinds import after, come_to, kind_table, row_to
from movedfolders.pairs import place_pairs, thing_pairs
from movedfolders.rules import require_rules
from movedfolders.tables import fewest, is_closed, least_table
from movedfolders.tasks import is_safe, keeps, require_task
from movedfolders.trees import contents_of, let_moves, played, require_tree
from movedfolders.unfolding import unfold
from movedfolders.withdrawals import cheapest, is_good, least_price
from tests.samples import STAIRS, STAIRS_RULES, TRAP, TRAP_RULES
from tests.support import HOUSE, RULES, THREE, TWO

INTERFACE = (
    ("movedfolders.houses", "require_house", ("value",)),
    ("movedfolders.houses", "contents", ("house",)),
    ("movedfolders.kinds", "after", ("house", "content", "kinds")),
    ("movedfolders.kinds", "kind_table", ("house",)),
    ("movedfolders.kinds", "come_to", ("house",)),
    ("movedfolders.kinds", "row_to", ("house", "content")),
    ("movedfolders.rules", "require_rules", ("house", "value")),
    ("movedfolders.trees", "require_tree", ("house", "value")),
    ("movedfolders.trees", "contents_of", ("house", "tree")),
    ("movedfolders.trees", "let_moves", ("house", "rules", "tree")),
    ("movedfolders.trees", "played", ("house", "rules", "tree", "moves")),
    ("movedfolders.pairs", "place_pairs", ("house", "rules")),
    ("movedfolders.pairs", "thing_pairs", ("house", "rules", "item")),
    ("movedfolders.tables", "least_table", ("house", "rules")),
    ("movedfolders.tables", "fewest", ("house", "rules", "item", "a", "b")),
    ("movedfolders.tables", "is_closed", ("house", "rules", "value")),
    ("movedfolders.courses", "is_course", ("house", "rules", "item", "value")),
    ("movedfolders.courses", "course_pair", ("house", "rules", "item", "course")),
    ("movedfolders.courses", "course_cost", ("house", "rules", "item", "course")),
    ("movedfolders.courses", "used_rules", ("course",)),
    ("movedfolders.courses", "course_for", ("house", "rules", "item", "a", "b")),
    ("movedfolders.unfolding", "unfold", ("house", "rules", "item", "course")),
    ("movedfolders.forecasts", "forecast", ("house", "rules", "tree", "thing")),
    ("movedfolders.tasks", "require_task", ("house", "rules", "value")),
    ("movedfolders.tasks", "is_safe", ("house", "rules", "leak")),
    ("movedfolders.tasks", "keeps", ("house", "rules", "wish")),
    ("movedfolders.withdrawals", "is_good", ("house", "rules", "task", "withdrawal")),
    ("movedfolders.withdrawals", "least_price", ("house", "rules", "task")),
    ("movedfolders.withdrawals", "cheapest", ("house", "rules", "task")),
)

SOME_RULES = (
    (HOUSE, RULES),
    (TWO, ((2, ((0, 1), (1, 3)), ((1, 0),)),)),
    (THREE, ((0, ((0, 0, 0),), ((1, 1, 1),)), (2, ((0, 0, 1),), ((0, 1, 0),)))),
    (STAIRS, STAIRS_RULES),
    (TRAP, TRAP_RULES),
)

TREE = ((2, 2), (0, -1), (1, 1), (0, 2), (2, 1))


def calls(house, rules):
    """Return calls for a house and rules, each as (function, arguments by name)."""
    return house_calls(house, rules) + tree_calls(house, rules) + pair_calls(house, rules) + task_calls(house, rules)


def tree_of(house):
    return tuple((min(item, len(house[2])), above) for item, above in TREE)


def task_of(house, rules):
    """Return a task with a leak and a wish about the first and the last content."""
    first, last = contents(house)[0], contents(house)[-1]
    return (((len(house[2]), (first,), (last,)),), ((0, last, last),), tuple(range(len(rules))))


def task_calls(house, rules):
    both = {"house": house, "rules": rules}
    found = []
    task = task_of(house, rules)
    for one in (task, ((), (), task[2]), (task[0], (), task[2]), ((), task[1], task[2])):
        some = {**both, "task": one}
        found += [(require_task, {**both, "value": one}), (least_price, some), (cheapest, some)]
        for withdrawal in ((), tuple(range(len(rules))), tuple(range(len(rules)))[1:]):
            found.append((is_good, {**some, "withdrawal": withdrawal}))
    return found + [(is_safe, {**both, "leak": task[0][0]}), (keeps, {**both, "wish": task[1][0]})]


def tree_calls(house, rules):
    tree = tree_of(house)
    both = {"house": house, "rules": rules, "tree": tree}
    found = [
        (require_tree, {"house": house, "value": tree}), (contents_of, {"house": house, "tree": tree}),
        (let_moves, both), (played, {**both, "moves": ()}), (played, {**both, "moves": ((0, -2),)}),
    ]
    found += [(forecast, {**both, "thing": thing}) for thing in range(len(tree))]
    return found + [(played, {**both, "moves": (move,)}) for move in let_moves(house, rules, tree)]


def pair_calls(house, rules):
    both = {"house": house, "rules": rules}
    table = least_table(house, rules)
    found = [
        (place_pairs, both), (least_table, both), (is_closed, {**both, "value": table}),
        (is_closed, {**both, "value": list(table)}), (is_closed, {**both, "value": (table[0], [], table[2])}),
    ]
    for item in range(len(house[2]) + 1):
        found.append((thing_pairs, {**both, "item": item}))
        for a in contents(house)[:3]:
            found += course_calls({**both, "item": item}, a, contents(house)[2 % len(contents(house))])
    return found


def course_calls(some, a, b):
    found = [(fewest, {**some, "a": a, "b": b}), (course_for, {**some, "a": a, "b": b})]
    course = course_for(some["house"], some["rules"], some["item"], a, b)
    for value in (course, [course], (course, [[]])):
        found.append((is_course, {**some, "value": value}))
    if course is not None:
        found += [(course_pair, {**some, "course": course}), (course_cost, {**some, "course": course})]
        found += [(used_rules, {"course": course}), (unfold, {**some, "course": course})]
    return found


def house_calls(house, rules):
    found = [
        (require_house, {"value": house}), (contents, {"house": house}), (kind_table, {"house": house}),
        (come_to, {"house": house}), (require_rules, {"house": house, "value": rules}),
    ]
    for content in contents(house):
        found.append((row_to, {"house": house, "content": content}))
        found.append((after, {"house": house, "content": content, "kinds": (1, 0, 1)}))
    return found


def other_classes(answer):
    """Return the classes in an answer that are none of those which the document names."""
    if isinstance(answer, tuple):
        inner = [other_classes(part) for part in answer]
        return set().union({answer.__class__} - {tuple}, *inner)
    return {answer.__class__} - {int, bool, str, None.__class__}


class AllCalls(unittest.TestCase):

    def test_defined_where_the_interface_lists_them(self):
        for module, name, parameters in INTERFACE:
            told = getattr(importlib.import_module(module), name)
            self.assertEqual(told.__module__, module)
            self.assertEqual(tuple(inspect.signature(told).parameters), parameters)

    def test_by_position_and_by_name(self):
        for house, rules in SOME_RULES:
            for told, arguments in calls(house, rules):
                backwards = dict(reversed(list(arguments.items())))
                wanted = told(*arguments.values())
                self.assertEqual(told(**arguments), wanted)
                self.assertEqual(told(**backwards), wanted)

    def test_errors_by_name(self):
        with self.assertRaises(InvalidHouse) as caught:
            require_house(value=[HOUSE])
        self.assertIsNone(caught.exception.part)
        with self.assertRaises(InvalidRules) as caught:
            require_rules(value=[RULES], house=HOUSE)
        self.assertIsNone(caught.exception.index)
        with self.assertRaises(InvalidTree) as caught:
            require_tree(value=[TREE], house=HOUSE)
        self.assertIsNone(caught.exception.index)
        with self.assertRaises(InvalidTask) as caught:
            require_task(value=[], rules=RULES, house=HOUSE)
        self.assertIsNone(caught.exception.part)

    def test_arguments_are_unchanged(self):
        for house, rules in SOME_RULES:
            for told, arguments in calls(house, rules):
                before = copy.deepcopy(arguments)
                told(**arguments)
                self.assertEqual(arguments, before)

    def test_the_same_answers_when_other_houses_were_asked_in_between(self):
        wanted = [[told(**arguments) for told, arguments in calls(*one)] for one in SOME_RULES]
        # The same kinds with another begin, and the same begin with other kinds.
        near = ((TWO[0], (0, 0), TWO[2]), (TWO[0], TWO[1], TWO[2][::-1]), (HOUSE[0], (2,), HOUSE[2]))
        for _ in range(2):
            for at, one in enumerate(SOME_RULES):
                # Other rules for the same house, and these rules turned round.
                others = [(house, ()) for house in near] + [(one[0], ()), (one[0], one[1][::-1])]
                for other in others:
                    for told, arguments in calls(*other):
                        told(**arguments)
                self.assertEqual([told(**arguments) for told, arguments in calls(*one)], wanted[at])

    def test_equal_houses_get_equal_answers(self):
        for house, rules in SOME_RULES:
            other = copy.deepcopy(house)
            for (told, arguments), (same, others) in zip(calls(house, rules), calls(other, copy.deepcopy(rules))):
                self.assertEqual(told(**arguments), same(**others))

    def test_answers_are_tuples_throughout(self):
        for house, rules in SOME_RULES:
            for told, arguments in calls(house, rules):
                self.assertEqual(other_classes(told(**arguments)), set())


if __name__ == "__main__":
    unittest.main()
