"""Point 2: what holds for all calls of the functions that the interface lists."""

import copy
import importlib
import inspect
import unittest

from movedfolders.checker import first_fault
from movedfolders.claims import decide, require_claim
from movedfolders.courses import course_cost, course_for, course_pair, is_course, used_rules
from movedfolders.drives import Drive
from movedfolders.errors import InvalidClaim, InvalidHouse, InvalidRules, InvalidTask, InvalidTree, ParseError
from movedfolders.forecasts import forecast
from movedfolders.houses import contents, require_house
from movedfolders.kinds import after, come_to, kind_table, row_to
from movedfolders.pairs import place_pairs, thing_pairs
from movedfolders.rules import require_rules
from movedfolders.tables import fewest, is_closed, least_table
from movedfolders.tasks import is_safe, keeps, require_task
from movedfolders.texts import format_house, format_rules, format_tree, parse_house, parse_rules, parse_tree
from movedfolders.trees import contents_of, let_moves, played, require_tree
from movedfolders.unfolding import unfold
from movedfolders.withdrawals import cheapest, is_good, least_price
from tests.samples import STAIRS, STAIRS_RULES, TRAP, TRAP_RULES
from tests.support import HOUSE, RULES, THREE, TWO

INTERFACE = (
    ("movedfolders.houses", "require_house", ("value",)),
    ("movedfolders.houses", "contents", ("house",)),
    ("movedfolders.kinds", "after", ("house", "content", "kinds")),
    ("movedfolders.kinds", "kind_table", ("house",)),
    ("movedfolders.kinds", "come_to", ("house",)),
    ("movedfolders.kinds", "row_to", ("house", "content")),
    ("movedfolders.rules", "require_rules", ("house", "value")),
    ("movedfolders.trees", "require_tree", ("house", "value")),
    ("movedfolders.trees", "contents_of", ("house", "tree")),
    ("movedfolders.trees", "let_moves", ("house", "rules", "tree")),
    ("movedfolders.trees", "played", ("house", "rules", "tree", "moves")),
    ("movedfolders.pairs", "place_pairs", ("house", "rules")),
    ("movedfolders.pairs", "thing_pairs", ("house", "rules", "item")),
    ("movedfolders.tables", "least_table", ("house", "rules")),
    ("movedfolders.tables", "fewest", ("house", "rules", "item", "a", "b")),
    ("movedfolders.tables", "is_closed", ("house", "rules", "value")),
    ("movedfolders.courses", "is_course", ("house", "rules", "item", "value")),
    ("movedfolders.courses", "course_pair", ("house", "rules", "item", "course")),
    ("movedfolders.courses", "course_cost", ("house", "rules", "item", "course")),
    ("movedfolders.courses", "used_rules", ("course",)),
    ("movedfolders.courses", "course_for", ("house", "rules", "item", "a", "b")),
    ("movedfolders.unfolding", "unfold", ("house", "rules", "item", "course")),
    ("movedfolders.forecasts", "forecast", ("house", "rules", "tree", "thing")),
    ("movedfolders.tasks", "require_task", ("house", "rules", "value")),
    ("movedfolders.tasks", "is_safe", ("house", "rules", "leak")),
    ("movedfolders.tasks", "keeps", ("house", "rules", "wish")),
    ("movedfolders.withdrawals", "is_good", ("house", "rules", "task", "withdrawal")),
    ("movedfolders.withdrawals", "least_price", ("house", "rules", "task")),
    ("movedfolders.withdrawals", "cheapest", ("house", "rules", "task")),
    ("movedfolders.claims", "require_claim", ("house", "claim")),
    ("movedfolders.claims", "decide", ("house", "claim")),
    ("movedfolders.checker", "first_fault", ("house", "certificate")),
    ("movedfolders.texts", "format_house", ("house",)),
    ("movedfolders.texts", "format_rules", ("rules",)),
    ("movedfolders.texts", "format_tree", ("tree",)),
    ("movedfolders.texts", "parse_house", ("text",)),
    ("movedfolders.texts", "parse_rules", ("text", "house")),
    ("movedfolders.texts", "parse_tree", ("text", "house")),
)

METHODS = {
    "__init__": ("house", "rules"), "__len__": (), "__contains__": ("number",), "add": ("item", "above"), "drop": ("thing",),
    "move": ("thing", "target"), "perform": ("deeds",), "things": (), "item": ("thing",), "above": ("thing",),
    "content": ("thing",), "inside": ("thing",), "path": ("thing",), "below": ("thing",), "house": (), "rules": (),
    "snapshot": (), "forecast": ("thing",), "fewest": ("thing", "content"), "plan": ("thing", "content"),
    "set_rules": ("rules",), "set_kind": ("index", "kind"), "checkpoint": (), "restore": ("number",),
    "guard": ("thing", "contents"), "guards": (), "guarded": ("number",), "holding": ("number",), "decide": ("claim",),
    "record": ("claim",), "records": (), "recorded": ("number",), "standing": ("number",),
}

SOME_RULES = (
    (HOUSE, RULES),
    (TWO, ((2, ((0, 1), (1, 3)), ((1, 0),)),)),
    (THREE, ((0, ((0, 0, 0),), ((1, 1, 1),)), (2, ((0, 0, 1),), ((0, 1, 0),)))),
    (STAIRS, STAIRS_RULES),
    (TRAP, TRAP_RULES),
)

TREE = ((2, 2), (0, -1), (1, 1), (0, 2), (2, 1))


def calls(house, rules):
    """Return calls for a house and rules, each as (function, arguments by name)."""
    return (
        house_calls(house, rules) + tree_calls(house, rules) + pair_calls(house, rules) + task_calls(house, rules)
        + claim_calls(house, rules) + text_calls(house, rules)
    )


def tree_of(house):
    return tuple((min(item, len(house[2])), above) for item, above in TREE)


def task_of(house, rules):
    """Return a task with a leak and a wish about the first and the last content."""
    first, last = contents(house)[0], contents(house)[-1]
    return (((len(house[2]), (first,), (last,)),), ((0, last, last),), tuple(range(len(rules))))


def claims_of(house, rules):
    first, last = contents(house)[0], contents(house)[-1]
    item, tree, task = len(house[2]), tree_of(house), task_of(house, rules)
    return [
        ("can", rules, item, first, last), ("least", rules, 0, first, first, 1), ("safe", rules, task[0][0]),
        ("pairs", rules, item, ((first, first), (last, last))), ("comes", rules, tree, 0, last, 1),
        ("never", rules, tree, 1, (first,)), ("withdraw", rules, task, 3), ("lost", rules, task),
    ]


def claim_calls(house, rules):
    found = []
    for claim in claims_of(house, rules):
        some = {"house": house, "claim": claim}
        word, _, paper = decide(house, claim)
        found += [(require_claim, some), (decide, some)]
        for value in ((word, claim, paper), ("broken", claim, paper), ("shown", claim, ()), [word], (word, [], paper)):
            found.append((first_fault, {"house": house, "certificate": value}))
    return found


def text_calls(house, rules):
    tree = tree_of(house)
    return [
        (format_house, {"house": house}), (format_rules, {"rules": rules}), (format_tree, {"tree": tree}),
        (parse_house, {"text": format_house(house)}), (parse_rules, {"text": format_rules(rules), "house": house}),
        (parse_tree, {"text": format_tree(tree), "house": house}),
    ]


def drive_calls(house, rules):
    """Return calls of methods, each as (name, arguments by name), in an order in which a drive can be asked."""
    first, tree = contents(house)[0], tree_of(house)
    found = [
        ("add", {"item": 0, "above": -1}), ("add", {"item": 0, "above": 0}), ("add", {"item": len(house[2]), "above": 1}),
        ("checkpoint", {}), ("perform", {"deeds": (("add", 0, 1), ("drop", 3))}), ("set_rules", {"rules": rules}),
        ("set_kind", {"index": 0, "kind": house[2][0]}), ("things", {}), ("house", {}), ("rules", {}), ("snapshot", {}),
        ("guards", {}), ("records", {}), ("decide", {"claim": ("can", rules, 0, first, first)}),
        ("record", {"claim": ("never", rules, tree, 0, (first,))}), ("recorded", {"number": 0}), ("standing", {"number": 0}),
    ]
    for thing in range(2):
        for name in ("item", "above", "content", "inside", "path", "below", "forecast"):
            found.append((name, {"thing": thing}))
        found += [(name, {"thing": thing, "content": first}) for name in ("fewest", "plan")]
    now = drive_with(house, rules).content(0)
    every = ((0, tuple([now]), tuple([now])),)
    found += [("set_rules", {"rules": every}), ("move", {"thing": 0, "target": -1}), ("set_rules", {"rules": ()})]
    others = tuple(content for content in contents(house) if content != now)
    found += [("guard", {"thing": 0, "contents": others}), ("guarded", {"number": 0}), ("holding", {"number": 0})]
    return found + [("drop", {"thing": 2}), ("restore", {"number": 0}), ("things", {})]


def drive_with(house, rules):
    drive = Drive(house, rules)
    drive.add(0)
    return drive


def task_calls(house, rules):
    both = {"house": house, "rules": rules}
    found = []
    task = task_of(house, rules)
    for one in (task, ((), (), task[2]), (task[0], (), task[2]), ((), task[1], task[2])):
        some = {**both, "task": one}
        found += [(require_task, {**both, "value": one}), (least_price, some), (cheapest, some)]
        for withdrawal in ((), tuple(range(len(rules))), tuple(range(len(rules)))[1:]):
            found.append((is_good, {**some, "withdrawal": withdrawal}))
    return found + [(is_safe, {**both, "leak": task[0][0]}), (keeps, {**both, "wish": task[1][0]})]


def tree_calls(house, rules):
    tree = tree_of(house)
    both = {"house": house, "rules": rules, "tree": tree}
    found = [
        (require_tree, {"house": house, "value": tree}), (contents_of, {"house": house, "tree": tree}),
        (let_moves, both), (played, {**both, "moves": ()}), (played, {**both, "moves": ((0, -2),)}),
    ]
    found += [(forecast, {**both, "thing": thing}) for thing in range(len(tree))]
    return found + [(played, {**both, "moves": (move,)}) for move in let_moves(house, rules, tree)]


def pair_calls(house, rules):
    both = {"house": house, "rules": rules}
    table = least_table(house, rules)
    found = [
        (place_pairs, both), (least_table, both), (is_closed, {**both, "value": table}),
        (is_closed, {**both, "value": list(table)}), (is_closed, {**both, "value": (table[0], [], table[2])}),
    ]
    for item in range(len(house[2]) + 1):
        found.append((thing_pairs, {**both, "item": item}))
        for a in contents(house)[:3]:
            found += course_calls({**both, "item": item}, a, contents(house)[2 % len(contents(house))])
    return found


def course_calls(some, a, b):
    found = [(fewest, {**some, "a": a, "b": b}), (course_for, {**some, "a": a, "b": b})]
    course = course_for(some["house"], some["rules"], some["item"], a, b)
    for value in (course, [course], (course, [[]])):
        found.append((is_course, {**some, "value": value}))
    if course is not None:
        found += [(course_pair, {**some, "course": course}), (course_cost, {**some, "course": course})]
        found += [(used_rules, {"course": course}), (unfold, {**some, "course": course})]
    return found


def house_calls(house, rules):
    found = [
        (require_house, {"value": house}), (contents, {"house": house}), (kind_table, {"house": house}),
        (come_to, {"house": house}), (require_rules, {"house": house, "value": rules}),
    ]
    for content in contents(house):
        found.append((row_to, {"house": house, "content": content}))
        found.append((after, {"house": house, "content": content, "kinds": (1, 0, 1)}))
    return found


def other_classes(answer):
    """Return the classes in an answer that are none of those which the document names."""
    if isinstance(answer, tuple):
        inner = [other_classes(part) for part in answer]
        return set().union({answer.__class__} - {tuple}, *inner)
    return {answer.__class__} - {int, bool, str, None.__class__}


class AllCalls(unittest.TestCase):

    def test_defined_where_the_interface_lists_them(self):
        for module, name, parameters in INTERFACE:
            told = getattr(importlib.import_module(module), name)
            self.assertEqual(told.__module__, module)
            self.assertEqual(tuple(inspect.signature(told).parameters), parameters)

    def test_methods_defined_in_the_class_itself(self):
        self.assertEqual(Drive.__module__, "movedfolders.drives")
        for name, parameters in METHODS.items():
            self.assertIn(name, vars(Drive))
            self.assertEqual(tuple(inspect.signature(vars(Drive)[name]).parameters)[1:], parameters, name)

    def test_methods_by_position_and_by_name(self):
        for house, rules in SOME_RULES:
            drives = [Drive(house, rules), Drive(house=house, rules=rules), Drive(rules=rules, house=house)]
            asked = []
            for name, arguments in drive_calls(house, rules):
                asked.append(name)
                backwards = dict(reversed(list(arguments.items())))
                before = copy.deepcopy(arguments)
                wanted = getattr(drives[0], name)(*arguments.values())
                self.assertEqual(getattr(drives[1], name)(**arguments), wanted, name)
                self.assertEqual(getattr(drives[2], name)(**backwards), wanted, name)
                self.assertEqual(arguments, before)
                self.assertEqual(other_classes(wanted), set())
            self.assertEqual(set(asked) | {"__init__", "__len__", "__contains__"}, set(METHODS))

    def test_by_position_and_by_name(self):
        for house, rules in SOME_RULES:
            for told, arguments in calls(house, rules):
                backwards = dict(reversed(list(arguments.items())))
                wanted = told(*arguments.values())
                self.assertEqual(told(**arguments), wanted)
                self.assertEqual(told(**backwards), wanted)

    def test_errors_by_name(self):
        with self.assertRaises(InvalidHouse) as caught:
            require_house(value=[HOUSE])
        self.assertIsNone(caught.exception.part)
        with self.assertRaises(InvalidRules) as caught:
            require_rules(value=[RULES], house=HOUSE)
        self.assertIsNone(caught.exception.index)
        with self.assertRaises(InvalidTree) as caught:
            require_tree(value=[TREE], house=HOUSE)
        self.assertIsNone(caught.exception.index)
        with self.assertRaises(InvalidTask) as caught:
            require_task(value=[], rules=RULES, house=HOUSE)
        self.assertIsNone(caught.exception.part)
        for told in (require_claim, decide):
            with self.assertRaises(InvalidClaim):
                told(claim=[], house=HOUSE)
        with self.assertRaises(ParseError) as caught:
            parse_house(text="cells\n")
        self.assertEqual(caught.exception.line, 0)
        with self.assertRaises(InvalidRules) as caught:
            Drive(rules=[RULES], house=HOUSE)
        self.assertIsNone(caught.exception.index)

    def test_arguments_are_unchanged(self):
        for house, rules in SOME_RULES:
            for told, arguments in calls(house, rules):
                before = copy.deepcopy(arguments)
                told(**arguments)
                self.assertEqual(arguments, before)

    def test_the_same_answers_when_other_houses_were_asked_in_between(self):
        wanted = [[told(**arguments) for told, arguments in calls(*one)] for one in SOME_RULES]
        # The same kinds with another begin, and the same begin with other kinds.
        near = ((TWO[0], (0, 0), TWO[2]), (TWO[0], TWO[1], TWO[2][::-1]), (HOUSE[0], (2,), HOUSE[2]))
        for _ in range(2):
            for at, one in enumerate(SOME_RULES):
                # Other rules for the same house, and these rules turned round.
                others = [(house, ()) for house in near] + [(one[0], ()), (one[0], one[1][::-1])]
                for other in others:
                    for told, arguments in calls(*other):
                        told(**arguments)
                self.assertEqual([told(**arguments) for told, arguments in calls(*one)], wanted[at])

    def test_equal_houses_get_equal_answers(self):
        for house, rules in SOME_RULES:
            other = copy.deepcopy(house)
            for (told, arguments), (same, others) in zip(calls(house, rules), calls(other, copy.deepcopy(rules))):
                self.assertEqual(told(**arguments), same(**others))

    def test_answers_are_tuples_throughout(self):
        for house, rules in SOME_RULES:
            for told, arguments in calls(house, rules):
                self.assertEqual(other_classes(told(**arguments)), set())


if __name__ == "__main__":
    unittest.main()
