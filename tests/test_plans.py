"""Points 3 and 19, and the interface, movedfolders/drives.py: forecast, fewest, plan, set_rules and set_kind."""

import random
import unittest

from movedfolders import errors
from movedfolders.drives import Drive
from movedfolders.forecasts import forecast
from movedfolders.houses import contents
from tests.driving import outcome, seen
from tests.samples import (
    CUBE, CUBE_RULES, ONE_BY_ONE, ONE_BY_ONE_RULES, SAMPLES, STAIRS, STAIRS_RULES, random_samples, random_step, random_tree,
)
from tests.support import HOUSE, NO_INTEGERS, RULES, TWO, put, strange_values

EVERY = tuple((item, ((0,), (1,), (2,)), ((0,), (1,), (2,))) for item in range(4))
NO_CONTENTS = (0, None, [0], (), (0, 0), (3,), (-1,), (True,), (False,), ((0,),), "0", {0: 0}, [(0,)])


def drive_of(house, rules, tree):
    """Return a drive with the things of a tree, and the number of each of them."""
    drive, numbers = Drive(house, rules), {-1: -1}
    while len(numbers) <= len(tree):
        for k, (item, above) in enumerate(tree):
            if k not in numbers and above in numbers:
                numbers[k] = drive.add(item, numbers[above])
    return drive, numbers


class Plans(unittest.TestCase):

    def refused(self, error, told, *arguments):
        with self.assertRaises(error.__class__) as caught:
            told(*arguments)
        self.assertEqual(vars(caught.exception), vars(error))

    def check(self, drive, thing, content):
        """See that a plan is one, and that performed as it stands it brings the thing to the content."""
        before = seen(drive)
        deeds = drive.plan(thing, content)
        self.assertEqual(seen(drive), before)
        cost = drive.fewest(thing, content)
        if cost is None:
            self.assertIsNone(deeds)
            return None
        self.assertIs(deeds.__class__, tuple)
        words = [deed[0] for deed in deeds]
        self.assertEqual(words, ["add"] * cost[1] + ["move"] * cost[0])
        old, path = drive.things(), drive.path(thing)
        new = drive.perform(deeds)[:cost[1]]
        self.assertEqual(drive.content(thing), content)
        self.assertEqual(drive.things(), old + new)
        for word, *parts in deeds:
            # Nothing that is there already is a target, and nothing but the path and what is added is moved.
            self.assertIn(parts[1], (-1,) + new)
            self.assertTrue(word == "add" or parts[0] in path + new)
        return deeds


class Forecasts(Plans):

    def test_those_of_the_tree(self):
        rng = random.Random(26)
        for house, rules in list(SAMPLES) + random_samples(30):
            drive, _ = drive_of(house, rules, random_tree(rng, house, 12))
            for number in rng.sample(drive.things(), 3):
                if outcome(drive.drop, number)[0] == "error":
                    outcome(drive.move, number, -1)
            tree, numbers = drive.snapshot()
            for k, number in enumerate(numbers):
                rows = forecast(house, rules, tree, k)
                self.assertEqual(drive.forecast(number), rows)
                costs = {content: (moves, things) for content, moves, things in rows}
                for content in contents(house):
                    self.assertEqual(drive.fewest(number, content), costs.get(content))

    def test_adding_and_dropping_changes_no_other_forecast(self):
        rng = random.Random(27)
        for house, rules in list(SAMPLES) + random_samples(15):
            drive, _ = drive_of(house, rules, random_tree(rng, house, 8))
            before = {number: drive.forecast(number) for number in drive.things()}
            folders = [-1] + [number for number in drive.things() if drive.item(number) < len(house[2])]
            added = [drive.add(rng.randrange(len(house[2]) + 1), rng.choice(folders)) for _ in range(4)]
            self.assertEqual({number: drive.forecast(number) for number in before}, before)
            for number in added[::-1] + list(drive.things())[::-1]:
                if outcome(drive.drop, number)[0] == "value":
                    before.pop(number, None)
                    self.assertEqual({number: drive.forecast(number) for number in before}, before)

    def test_behind_moves(self):
        rng = random.Random(28)
        done = 0
        for house, rules in list(SAMPLES) + [(HOUSE, EVERY)] * 3 + random_samples(30):
            drive, _ = drive_of(house, rules, random_tree(rng, house, 9))
            for _ in range(40):
                before = {number: drive.forecast(number) for number in drive.things()}
                thing, target = rng.choice(drive.things()), rng.choice((-1,) + drive.things())
                if outcome(drive.move, thing, target)[0] == "error":
                    continue
                done += 1
                for number, rows in before.items():
                    behind = drive.forecast(number)
                    if number != thing and number not in drive.below(thing):
                        self.assertEqual(behind, rows)
                    moves = {content: many for content, many, _ in rows}
                    for content, many, _ in behind:
                        self.assertIn(content, moves)
                        self.assertGreaterEqual(many, moves[content] - 1)
        self.assertGreater(done, 150)

    def test_errors(self):
        drive, _ = drive_of(HOUSE, RULES, ((1, -1), (2, 0)))
        for told in (drive.fewest, drive.plan):
            for number in NO_INTEGERS + (2, 7):
                self.refused(errors.UnknownThing(number), told, number, None)
                self.refused(errors.UnknownThing(number), told, number, (0,))
            for content in NO_CONTENTS:
                self.refused(errors.InvalidContent(content), told, 1, content)
            for value in strange_values():
                with self.assertRaises(errors.InvalidContent):
                    told(1, value)
                if value.__class__ is not int or value not in (0, 1):
                    with self.assertRaises(errors.UnknownThing):
                        told(value, (0,))
        other, _ = drive_of(TWO, (), ((0, -1),))
        self.refused(errors.InvalidContent((0,)), other.plan, 0, (0,))
        self.assertEqual(other.plan(0, (1, 3)), ())

    def test_by_names(self):
        drive, _ = drive_of(HOUSE, RULES, ((2, -1),))
        self.assertEqual(drive.fewest(content=(2,), thing=0), (2, 3))
        self.assertEqual(drive.plan(content=(2,), thing=0), drive.plan(0, (2,)))
        self.assertEqual(drive.forecast(thing=0), (((0,), 0, 0), ((1,), 1, 1), ((2,), 2, 3)))


class PlansByHand(Plans):

    def test_the_content_of_now(self):
        drive, _ = drive_of(HOUSE, RULES, ((1, -1), (2, 0), (3, 1)))
        self.assertEqual([drive.plan(0, (0,)), drive.plan(1, (1,)), drive.plan(2, (2,))], [(), (), ()])

    def test_none(self):
        drive, _ = drive_of(HOUSE, RULES, ((1, -1), (2, 0), (3, 1)))
        self.assertIsNone(drive.plan(2, (1,)))
        self.assertIsNone(drive.plan(0, (2,)))

    def test_one_move(self):
        drive, _ = drive_of(HOUSE, RULES, ((2, -1), (3, 0)))
        self.assertEqual(drive.plan(1, (2,)), (("add", 1, -1), ("move", 0, 2)))
        self.check(drive, 1, (2,))

    def test_numbers_that_things_will_have(self):
        drive, _ = drive_of(HOUSE, RULES, ((2, -1), (3, 0), (1, -1)))
        for _ in range(3):
            drive.drop(drive.add(3))
        drive.drop(2)
        self.assertEqual(drive.plan(1, (2,)), (("add", 1, -1), ("move", 0, 6)))
        self.check(drive, 1, (2,))

    def test_a_thing_of_three_more(self):
        drive, _ = drive_of(HOUSE, RULES, ((2, -1),))
        deeds = self.check(drive, 0, (2,))
        self.assertEqual(len(deeds), 5)

    def test_things_of_the_path_from_the_root_down(self):
        rules = RULES + ((3, ((2,),), ((1,),)),)
        drive, _ = drive_of(HOUSE, rules, ((2, -1), (3, 0)))
        deeds = self.check(drive, 1, (1,))
        self.assertEqual([deed[1] for deed in deeds if deed[0] == "move"], [0, 1])

    def test_one_by_one(self):
        drive, _ = drive_of(ONE_BY_ONE, ONE_BY_ONE_RULES, ((5, -1),))
        self.assertEqual(drive.fewest(0, (7,)), (5, 5))
        self.check(drive, 0, (7,))

    def test_each_content_of_each_thing(self):
        rng = random.Random(29)
        done = 0
        some = [(CUBE, CUBE_RULES), (STAIRS, STAIRS_RULES)] + [(HOUSE, EVERY), (HOUSE, RULES)] * 3
        for house, rules in list(SAMPLES) + some + random_samples(100):
            tree = random_tree(rng, house, rng.choice((1, 2, 5, 12)))
            for k in rng.sample(range(len(tree)), min(len(tree), 4)):
                for content in contents(house):
                    drive, numbers = drive_of(house, rules, tree)
                    deeds = self.check(drive, numbers[k], content)
                    done += deeds not in (None, ())
        self.assertGreater(done, 100)

    def test_plans_one_behind_the_other(self):
        rng = random.Random(30)
        for house, rules in list(SAMPLES) + random_samples(20):
            drive, _ = drive_of(house, rules, random_tree(rng, house, 6))
            for _ in range(6):
                thing = rng.choice(drive.things())
                rows = drive.forecast(thing)
                if len(drive) < 150:
                    self.check(drive, thing, rng.choice(rows)[0])


class Limits(Plans):

    def crowd(self, drive, many):
        """Add leaves until there are so many things."""
        while len(drive) < many:
            drive.add(len(drive.house()[2]))

    def path_drive(self, house, rules, items):
        """Return a drive with one path of these items."""
        return drive_of(house, rules, tuple((item, k - 1) for k, item in enumerate(items)))[0]

    def test_things_with_those_that_are_there(self):
        for many in (196, 197, 198, 199, 200):
            drive, _ = drive_of(HOUSE, RULES, ((2, -1),))
            self.crowd(drive, many)
            self.assertEqual((drive.fewest(0, (1,)), drive.fewest(0, (2,))), ((1, 1), (2, 3)))
            before = seen(drive)
            if many > 197:
                self.refused(errors.LimitExceeded(200), drive.plan, 0, (2,))
            if many > 199:
                self.refused(errors.LimitExceeded(200), drive.plan, 0, (1,))
            self.assertEqual(seen(drive), before)
            self.assertEqual(drive.plan(0, (0,)), ())
            if many <= 197:
                self.check(drive, 0, (2,))
            elif many <= 199:
                self.check(drive, 0, (1,))

    def test_two_hundred_things_and_none_more(self):
        rules = ((3, ((1,),), ((0,),)),)
        drive, _ = drive_of(HOUSE, rules, ((1, -1), (3, 0)))
        self.crowd(drive, 200)
        self.assertEqual(drive.plan(1, (0,)), (("move", 1, -1),))
        self.assertEqual(drive.plan(1, (1,)), ())
        self.assertIsNone(drive.plan(1, (2,)))

    def test_errors_ahead_of_the_limit(self):
        drive, _ = drive_of(HOUSE, RULES, ((2, -1),))
        self.crowd(drive, 200)
        self.refused(errors.UnknownThing(200), drive.plan, 200, (2,))
        self.refused(errors.InvalidContent((3,)), drive.plan, 0, (3,))
        self.assertIsNone(drive.plan(1, (2,)))

    def test_a_move_for_each_folder_of_a_path(self):
        # Each folder passes on that it came to 2, and nothing else; 2 is that of the root.
        passing = (("when", 0, 1, 1, ("set", 0, 0)), ("when", 0, 2, 2, ("set", 0, 1)))
        house = ((3,), (2,), ((("set", 0, 0),), passing, passing))
        rules = ((1, ((0,),), ((2,),)), (2, ((1,),), ((2,),)))
        for many in (1, 2, 100, 198):
            drive = self.path_drive(house, rules, (0, 1) + (2,) * (many - 1) + (3,))
            leaf = many + 1
            self.assertEqual(drive.forecast(leaf), (((0,), 0, 0), ((1,), many, 0)))
            self.assertEqual(drive.plan(leaf, (1,)), tuple(("move", number, -1) for number in range(1, many + 1)))
            self.crowd(drive, 200)
            self.check(drive, leaf, (1,))

    def test_a_thing_more_for_each_folder_of_a_path(self):
        # The same, but what has 2 must be put in each time.
        passing = (("when", 0, 1, 1, ("set", 0, 0)), ("when", 0, 2, 2, ("set", 0, 1)))
        house = ((3,), (0,), ((("set", 0, 2),), passing, passing))
        rules = ((1, ((0,),), ((2,),)), (2, ((1,),), ((2,),)))
        for many, crowd, right in ((99, 100, True), (99, 101, True), (99, 102, False), (100, 101, False), (199, 200, False)):
            drive = self.path_drive(house, rules, (1,) + (2,) * (many - 1) + (3,))
            self.crowd(drive, crowd)
            self.assertEqual(drive.forecast(many), (((0,), 0, 0), ((1,), many, many)))
            if right:
                self.check(drive, many, (1,))
            else:
                self.refused(errors.LimitExceeded(200), drive.plan, many, (1,))


class RulesAndKinds(Plans):

    def test_set_rules(self):
        drive, _ = drive_of(HOUSE, RULES, ((1, -1), (2, -1), (3, 1)))
        before = drive.snapshot()
        self.assertEqual(drive.fewest(2, (2,)), (1, 1))
        self.assertIsNone(drive.set_rules(()))
        self.assertEqual((drive.rules(), drive.snapshot(), drive.house()), ((), before, HOUSE))
        self.assertIsNone(drive.fewest(2, (2,)))
        self.assertIsNone(drive.plan(2, (2,)))
        self.refused(errors.NotLet(1), drive.move, 1, 0)
        drive.set_rules(rules=RULES)
        self.assertEqual(drive.fewest(2, (2,)), (1, 1))
        self.assertEqual(drive.move(1, 0), 0)

    def test_rules_that_are_none(self):
        drive, _ = drive_of(HOUSE, RULES, ((1, -1), (2, -1), (3, 1)))
        before = seen(drive)
        for value, index in ((None, None), ([], None), (RULES * 7, None), (RULES + ((9,),), 1), ((None,) * 6, 0)):
            self.refused(errors.InvalidRules(index), drive.set_rules, value)
            self.assertEqual(seen(drive), before)
        for value in strange_values():
            if value != ():
                with self.assertRaises(errors.InvalidRules):
                    drive.set_rules(value)
        self.assertEqual(drive.fewest(2, (2,)), (1, 1))

    def test_set_kind(self):
        drive, _ = drive_of(HOUSE, RULES, ((1, -1), (2, 0), (3, 1)))
        before = drive.snapshot()
        self.assertEqual((drive.content(2), drive.forecast(2)), ((2,), (((2,), 0, 0),)))
        self.assertIsNone(drive.set_kind(2, (("set", 0, 0),)))
        self.assertEqual(drive.house(), put(HOUSE, 2, put(HOUSE[2], 2, (("set", 0, 0),))))
        self.assertEqual((drive.content(2), drive.forecast(2)), ((0,), (((0,), 0, 0),)))
        self.assertEqual((drive.snapshot(), drive.rules()), (before, RULES))
        drive.set_kind(kind=HOUSE[2][2], index=2)
        self.assertEqual((drive.house(), drive.content(2)), (HOUSE, (2,)))
        drive.set_kind(1, ())
        self.assertEqual([drive.content(number) for number in range(3)], [(0,), (0,), (0,)])
        self.refused(errors.NotLet(1), drive.move, 1, 0)

    def test_kinds_that_are_none(self):
        drive, _ = drive_of(HOUSE, RULES, ((1, -1), (2, 0), (3, 1)))
        before = seen(drive)
        for index in NO_INTEGERS + (3, 4):
            self.refused(errors.UnknownItem(index), drive.set_kind, index, None)
            self.refused(errors.UnknownItem(index), drive.set_kind, index, ())
        for kind in (None, [], [("set", 0, 0)], (("set", 0, 3),), (("set", 1, 0),), (("set", 0, 0),) * 7, ("set", 0, 0), 0):
            for index in range(3):
                self.refused(errors.InvalidHouse(("kind", index)), drive.set_kind, index, kind)
        for value in strange_values():
            if value != ():
                self.refused(errors.InvalidHouse(("kind", 0)), drive.set_kind, 0, value)
        self.assertEqual(seen(drive), before)
        self.assertEqual(drive.forecast(2), forecast(HOUSE, RULES, drive.snapshot()[0], 2))

    def test_all_is_answered_by_those_of_now(self):
        rng = random.Random(31)
        some = list(SAMPLES) + random_samples(20)
        for house, rules in some:
            drive, _ = drive_of(house, rules, random_tree(rng, house, 7))
            marks = []
            for _ in range(12):
                self.compare(drive)
                choice = rng.randrange(4)
                if choice == 0:
                    current = drive.rules()
                    drive.set_rules(tuple(rule for rule in rules if rng.random() < 0.6) if current == rules else rules)
                elif choice == 1:
                    drive.set_kind(rng.randrange(len(house[2])), (random_step(rng, house[0]),))
                elif choice == 2 and len(marks) < 4:
                    marks.append(drive.checkpoint())
                elif marks:
                    drive.restore(rng.choice(marks))
            self.compare(drive)

    def compare(self, drive):
        tree, numbers = drive.snapshot()
        for k, number in enumerate(numbers):
            rows = forecast(drive.house(), drive.rules(), tree, k)
            self.assertEqual(drive.forecast(number), rows)
            self.assertEqual(drive.fewest(number, rows[-1][0]), rows[-1][1:])


if __name__ == "__main__":
    unittest.main()
