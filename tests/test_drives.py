"""Points 2 and 19, and the interface, movedfolders/drives.py: things, moves and deeds."""

import copy
import random
import unittest

from movedfolders import errors
from movedfolders.drives import Drive
from movedfolders.trees import contents_of, require_tree
from tests.driving import Model, kept_by, outcome, seen
from tests.samples import SAMPLES, TRAP, TRAP_RULES, TWO_RULES, random_samples
from tests.support import HOUSE, RULES, TWO, put, strange_values

NO_NUMBERS = (-1, -2, 3, 99, True, False, None, "0", "", (0,), [0], {}, {0: 0}, 10 ** 79, (), [])


class Drives(unittest.TestCase):

    def refused(self, error, told, *arguments, drive=None):
        """See that a call raises just this error, with what it keeps, and changes nothing; return it."""
        before = None if drive is None else seen(drive)
        with self.assertRaises(error.__class__) as caught:
            told(*arguments)
        self.assertIs(caught.exception.__class__, error.__class__)
        self.assertEqual(vars(caught.exception), vars(error))
        if drive is not None:
            self.assertEqual(seen(drive), before)
        return caught.exception

    def some(self):
        """Return a drive with a team (0), a wide folder in it (1), a leaf in that (2), and a wide folder (3)."""
        drive = Drive(HOUSE, RULES)
        self.assertEqual([drive.add(1), drive.add(2, 0), drive.add(3, 1), drive.add(2)], [0, 1, 2, 3])
        return drive


class Making(Drives):

    def test_without_things(self):
        for drive in (Drive(HOUSE), Drive(HOUSE, ()), Drive(house=HOUSE), Drive(rules=(), house=HOUSE)):
            self.assertEqual((drive.house(), drive.rules(), len(drive), drive.things()), (HOUSE, (), 0, ()))
            self.assertEqual(drive.snapshot(), ((), ()))
            self.assertEqual((drive.guards(), drive.records()), ((), 0))
        self.assertEqual(Drive(rules=RULES, house=HOUSE).rules(), RULES)

    def test_no_house(self):
        for value, part in (
            (None, None), (list(HOUSE), None), (HOUSE[:2], None), (put(HOUSE, 0, (9,)), ("sizes",)),
            (put(HOUSE, 1, (3,)), ("begin",)), (put(HOUSE, 2, HOUSE[2] + (None,)), ("kind", 3)),
        ):
            self.refused(errors.InvalidHouse(part), Drive, value)
            self.refused(errors.InvalidHouse(part), Drive, value, [])

    def test_no_rules(self):
        for value, index in (
            (None, None), (list(RULES), None), (RULES * 7, None), (RULES + ((4, ((0,),), ((1,),)),), 1), ((RULES,), 0),
        ):
            self.refused(errors.InvalidRules(index), Drive, HOUSE, value)

    def test_strange_values(self):
        for value in strange_values():
            with self.assertRaises(errors.InvalidHouse):
                Drive(value)
            if value != ():
                with self.assertRaises(errors.InvalidRules):
                    Drive(HOUSE, value)


class Adding(Drives):

    def test_numbers_from_0_on(self):
        drive = Drive(HOUSE, RULES)
        for number in range(10):
            self.assertEqual(drive.add(number % 4), number)
        self.assertEqual(drive.things(), tuple(range(10)))

    def test_numbers_are_not_given_again(self):
        drive = Drive(HOUSE, RULES)
        for number in range(5):
            drive.add(3)
        for number in (4, 0, 2):
            self.assertIsNone(drive.drop(number))
        self.assertEqual(drive.things(), (1, 3))
        self.assertEqual(drive.add(3), 5)
        drive.drop(5)
        self.assertEqual(drive.add(3), 6)
        self.assertEqual(drive.things(), (1, 3, 6))

    def test_a_refused_thing_uses_no_number(self):
        drive = Drive(HOUSE, RULES)
        drive.add(3)
        self.refused(errors.UnknownItem(4), drive.add, 4, drive=drive)
        self.refused(errors.NotAFolder(0), drive.add, 3, 0, drive=drive)
        self.refused(errors.UnknownThing(7), drive.add, 3, 7, drive=drive)
        self.assertEqual(drive.add(3), 1)

    def test_items(self):
        drive = Drive(HOUSE, RULES)
        for item in range(4):
            self.assertEqual(drive.item(drive.add(item)), item)
        for item in (4, -1, True, False, None, "1", (1,), [1], {}, 10 ** 79):
            self.refused(errors.UnknownItem(item), drive.add, item, drive=drive)
            self.refused(errors.UnknownItem(item), drive.add, item, None)

    def test_above(self):
        drive = self.some()
        self.assertEqual([drive.above(number) for number in range(4)], [-1, 0, 1, -1])
        self.assertEqual(drive.add(3, 3), 4)
        self.assertEqual(drive.above(4), 3)
        self.assertEqual(drive.add(3, above=0), 5)
        self.assertEqual(drive.add(above=-1, item=3), 6)
        self.assertEqual((drive.above(5), drive.above(6)), (0, -1))
        for above in NO_NUMBERS:
            if above not in (-1, 3):
                self.refused(errors.UnknownThing(above), drive.add, 3, above, drive=drive)
        for leaf in (2, 4):
            self.refused(errors.NotAFolder(leaf), drive.add, 0, leaf, drive=drive)

    def test_two_hundred_things(self):
        drive = Drive(HOUSE, RULES)
        for number in range(200):
            drive.add(number % 4)
        self.assertEqual(len(drive), 200)
        self.refused(errors.LimitExceeded(200), drive.add, 3, drive=drive)
        self.refused(errors.LimitExceeded(200), drive.add, 3, 0)
        self.refused(errors.UnknownItem(9), drive.add, 9)
        self.refused(errors.UnknownThing(200), drive.add, 3, 200)
        self.refused(errors.NotAFolder(3), drive.add, 3, 3)
        drive.drop(199)
        self.assertEqual(drive.add(3), 200)
        self.refused(errors.LimitExceeded(200), drive.add, 3)

    def test_a_path_of_two_hundred(self):
        drive = Drive(HOUSE, RULES)
        drive.add(1)
        for number in range(199):
            drive.add(2, number)
        self.assertEqual(drive.path(199), tuple(range(200)))
        self.assertEqual(drive.below(0), tuple(range(1, 200)))
        self.assertEqual((drive.content(0), drive.content(1), drive.content(2), drive.content(199)), ((0,), (1,), (2,), (2,)))


class Dropping(Drives):

    def test_things_in_which_nothing_lies(self):
        drive = self.some()
        self.refused(errors.Holds(0), drive.drop, 0, drive=drive)
        self.refused(errors.Holds(1), drive.drop, 1, drive=drive)
        self.assertIsNone(drive.drop(2))
        self.refused(errors.Holds(0), drive.drop, 0, drive=drive)
        self.assertIsNone(drive.drop(1))
        self.assertIsNone(drive.drop(thing=0))
        self.assertEqual(drive.things(), (3,))

    def test_unknown_things(self):
        drive = self.some()
        for number in NO_NUMBERS:
            if number != 3 or number is True:
                self.refused(errors.UnknownThing(number), drive.drop, number, drive=drive)
        drive.drop(3)
        self.refused(errors.UnknownThing(3), drive.drop, 3, drive=drive)
        self.refused(errors.UnknownThing(3), drive.add, 3, 3, drive=drive)


class LenAndIn(Drives):

    def test_len(self):
        drive = Drive(HOUSE)
        for many in range(5):
            self.assertEqual(len(drive), many)
            drive.add(3)
        drive.drop(2)
        self.assertEqual(len(drive), 4)

    def test_in(self):
        drive = self.some()
        drive.drop(3)
        for number in range(3):
            self.assertIs(number in drive, True)
        for value in NO_NUMBERS:
            self.assertIs(value in drive, False)
        for value in strange_values():
            if value.__class__ is not int or value not in (0, 1, 2):
                self.assertIs(value in drive, False)
        self.assertIs(0 in Drive(HOUSE), False)
        self.assertIs(False in drive, False)
        self.assertIs(True in drive, False)


class Moving(Drives):

    def test_the_example(self):
        drive = Drive(HOUSE, RULES)
        numbers = [drive.add(1), drive.add(2), drive.add(3, 1)]
        self.assertEqual((numbers, drive.fewest(2, (2,)), drive.move(1, 0), drive.content(2)), ([0, 1, 2], (1, 1), 0, (2,)))

    def test_the_least_index_of_a_rule_that_lets_it(self):
        zero, one, two = (0,), (1,), (2,)
        rules = ((3, (zero,), (two,)), (2, (zero,), (one,)), (3, (zero,), (one,)), (3, (zero, one), (zero, one)))
        drive = Drive(HOUSE, rules + (rules[2],))
        drive.add(1)
        leaf = drive.add(3)
        self.assertEqual(drive.move(leaf), 3)
        self.assertEqual(drive.move(leaf, 0), 2)
        self.assertEqual(drive.move(leaf, 0), 3)
        self.assertEqual(drive.above(leaf), 0)
        self.assertEqual(drive.move(leaf, -1), 3)
        self.assertEqual(drive.move(target=0, thing=leaf), 2)

    def test_the_root_if_no_target_is_told(self):
        drive = Drive(HOUSE, ((3, ((1,),), ((0,),)),))
        drive.add(1)
        drive.add(3, 0)
        self.assertEqual(drive.move(1), 0)
        self.assertEqual((drive.above(1), drive.content(1)), (-1, (0,)))

    def test_into_the_place_in_which_it_lies(self):
        drive = Drive(HOUSE, ((3, ((1,),), ((1,),)), (3, ((0,),), ((0,),))))
        drive.add(1)
        drive.add(3, 0)
        drive.add(3)
        before = seen(drive)
        self.assertEqual(drive.move(1, 0), 0)
        self.assertEqual(drive.move(2, -1), 1)
        self.assertEqual(seen(drive), before)

    def test_what_lies_below_goes_with_it(self):
        drive = self.some()
        drive.move(3, 0)
        self.assertEqual(drive.below(0), (1, 2, 3))
        rules = ((1, ((0,),), ((0,),)),)
        drive.set_rules(rules)
        drive.add(0)
        self.assertEqual(drive.move(0, 4), 0)
        self.assertEqual((drive.path(2), drive.content(2)), ((4, 0, 1, 2), (2,)))

    def test_unknown_things(self):
        drive = self.some()
        for number in NO_NUMBERS:
            if number != 3:
                self.refused(errors.UnknownThing(number), drive.move, number, None, drive=drive)
                self.refused(errors.UnknownThing(number), drive.move, number)
                if number != -1:
                    self.refused(errors.UnknownThing(number), drive.move, 3, number, drive=drive)
        drive.drop(2)
        self.refused(errors.UnknownThing(2), drive.move, 2, 0)
        self.refused(errors.UnknownThing(2), drive.move, 3, 2)

    def test_no_folders_and_within(self):
        drive = self.some()
        self.refused(errors.NotAFolder(2), drive.move, 3, 2, drive=drive)
        self.refused(errors.NotAFolder(2), drive.move, 2, 2, drive=drive)
        self.refused(errors.NotAFolder(2), drive.move, 0, 2, drive=drive)
        for thing, target in ((0, 0), (0, 1), (1, 1), (3, 3)):
            self.refused(errors.Within(target), drive.move, thing, target, drive=drive)

    def test_not_let(self):
        drive = self.some()
        for thing, target in ((0, -1), (0, 3), (1, 0), (1, -1), (2, 0), (2, -1), (3, -1)):
            self.refused(errors.NotLet(thing), drive.move, thing, target, drive=drive)
        drive = Drive(TRAP, TRAP_RULES)
        drive.add(2)
        leaf = drive.add(5)
        self.refused(errors.NotLet(leaf), drive.move, leaf, 0, drive=drive)

    def test_contents_ahead_of_the_move(self):
        # A wide folder in 0 makes 0: what it becomes behind the move does not count.
        drive = Drive(HOUSE, ((2, ((0,),), ((1,),)), (3, ((0,),), ((2,),))))
        drive.add(1)
        drive.add(2)
        drive.add(3)
        self.refused(errors.NotLet(2), drive.move, 2, 1)
        drive.move(1, 0)
        self.assertEqual(drive.move(2, 1), 1)


class Answers(Drives):

    def test_each_of_them(self):
        drive = self.some()
        self.assertEqual([drive.item(number) for number in range(4)], [1, 2, 3, 2])
        self.assertEqual([drive.content(number) for number in range(4)], [(0,), (1,), (2,), (0,)])
        self.assertEqual([drive.inside(number) for number in (0, 1, 3)], [(1,), (2,), (0,)])
        self.assertEqual([drive.path(number) for number in range(4)], [(0,), (0, 1), (0, 1, 2), (3,)])
        self.assertEqual([drive.below(number) for number in range(4)], [(1, 2), (2,), (), ()])
        self.assertEqual(drive.snapshot(), (((1, -1), (2, 0), (3, 1), (2, -1)), (0, 1, 2, 3)))
        drive.drop(2)
        drive.drop(1)
        drive.add(3, 3)
        self.assertEqual(drive.snapshot(), (((1, -1), (2, -1), (3, 1)), (0, 3, 4)))
        self.assertEqual((drive.things(), drive.house(), drive.rules()), ((0, 3, 4), HOUSE, RULES))

    def test_a_thing_in_a_later_one(self):
        drive = Drive(HOUSE, RULES)
        drive.add(2)
        drive.add(1)
        drive.move(0, 1)
        self.assertEqual(drive.snapshot(), (((2, 1), (1, -1)), (0, 1)))
        self.assertEqual((drive.path(0), drive.below(1), drive.below(0)), ((1, 0), (0,), ()))

    def test_unknown_things(self):
        drive = self.some()
        methods = (drive.item, drive.above, drive.content, drive.inside, drive.path, drive.below, drive.forecast)
        for number in NO_NUMBERS:
            if number != 3:
                for told in methods:
                    self.refused(errors.UnknownThing(number), told, number)
        drive.drop(3)
        for told in methods:
            self.refused(errors.UnknownThing(3), told, 3, drive=drive)
        for value in strange_values():
            if value.__class__ is not int or value not in (0, 1, 2):
                for told in methods:
                    with self.assertRaises(errors.UnknownThing):
                        told(value)

    def test_inside_of_leaves(self):
        drive = self.some()
        self.refused(errors.NotAFolder(2), drive.inside, 2, drive=drive)

    def test_by_names(self):
        drive = self.some()
        for told in (drive.item, drive.above, drive.content, drive.inside, drive.path, drive.below, drive.forecast):
            self.assertEqual(told(thing=1), told(1))

    def test_other_contents(self):
        drive = Drive(TWO, TWO_RULES)
        drive.add(0)
        drive.add(2, 0)
        self.assertEqual((drive.content(1), drive.inside(0)), ((1, 3), (1, 3)))


class Performing(Drives):

    def test_all(self):
        drive = Drive(HOUSE, RULES)
        deeds = (("add", 1, -1), ("add", 2, -1), ("add", 3, 1), ("move", 1, 0), ("drop", 2), ("add", 3, 1))
        self.assertEqual(drive.perform(deeds), (0, 1, 2, 0, None, 3))
        self.assertEqual(drive.snapshot(), (((1, -1), (2, 0), (3, 1)), (0, 1, 3)))
        self.assertEqual(drive.perform(()), ())
        self.assertEqual(drive.perform(deeds=(("drop", 3),)), (None,))

    def test_none_if_one_is_refused(self):
        for index, wrong, cause in (
            (0, ("add", 4, -1), errors.UnknownItem(4)), (1, ("add", 3, 9), errors.UnknownThing(9)),
            (2, ("add", 3, 2), errors.NotAFolder(2)), (3, ("move", 9, 0), errors.UnknownThing(9)),
            (1, ("move", 3, 2), errors.NotAFolder(2)), (0, ("move", 0, 1), errors.Within(1)),
            (2, ("move", 3, -1), errors.NotLet(3)), (1, ("drop", 0), errors.Holds(0)), (3, ("drop", 8), errors.UnknownThing(8)),
            (1, ("drop", True), errors.UnknownThing(True)), (1, ("add", None, []), errors.UnknownItem(None)),
            (2, ("move", [], {}), errors.UnknownThing([])), (2, ("move", 3, []), errors.UnknownThing([])),
        ):
            drive = self.some()
            right = (("add", 3, 0), ("move", 3, 0), ("add", 0, 3), ("drop", 4))
            for deeds in (right[:index] + (wrong,), right[:index] + (wrong,) + right[index:]):
                error = self.refused(errors.Refused(index), drive.perform, deeds, drive=drive)
                self.assertIs(error.__cause__.__class__, cause.__class__)
                self.assertEqual(vars(error.__cause__), vars(cause))
            # No number was used.
            self.assertEqual(drive.perform(right), (4, 0, 5, None))

    def test_what_was_done_ahead_is_undone(self):
        drive = self.some()
        deeds = (("drop", 2), ("drop", 1), ("drop", 0), ("add", 0, -1), ("add", 3, 4), ("move", 3, -1))
        self.refused(errors.Refused(5), drive.perform, deeds, drive=drive)
        self.assertEqual(drive.add(3), 4)

    def test_the_limit_is_a_cause_too(self):
        drive = Drive(HOUSE, RULES)
        for _ in range(199):
            drive.add(3)
        error = self.refused(errors.Refused(1), drive.perform, (("add", 3, -1),) * 2, drive=drive)
        self.assertEqual(kept_by(error.__cause__), (errors.LimitExceeded, {"limit": 200}, None))
        self.assertEqual(drive.perform((("drop", 0), ("add", 3, -1), ("add", 3, -1))), (None, 199, 200))

    def test_four_hundred_deeds(self):
        drive = Drive(HOUSE, RULES)
        deeds = (("add", 3, -1),) * 200 + tuple(("drop", number) for number in range(200))
        self.assertEqual(drive.perform(deeds), tuple(range(200)) + (None,) * 200)
        self.refused(errors.InvalidDeeds(), drive.perform, (("add", 3, -1),) * 401, drive=drive)
        self.refused(errors.InvalidDeeds(), drive.perform, deeds + (None,), drive=drive)
        self.assertEqual(drive.perform((("add", 3, -1), ("drop", 200))), (200, None))

    def test_no_deeds(self):
        drive = self.some()
        wrong = (
            None, (), ("add",), ("add", 3), ("add", 3, -1, 0), ["add", 3, -1], ("drop",), ("drop", 3, 0), ("move", 3), ("move",),
            ("move", 3, 0, 0), ("Add", 3, -1), ("added", 3, -1), (("add",), 3, -1), (None, 3), ([], 3, 0), ({}, 3), "add", 3,
            ("fewest", 3, (0,)), ("things", 3), ("item", 3), (True, 3), (0, 3, -1), ("checkpoint", 3), ("", 3), [("drop", 3)],
        )
        for deed in wrong:
            self.refused(errors.InvalidDeeds(), drive.perform, (deed,), drive=drive)
            self.refused(errors.InvalidDeeds(), drive.perform, (("drop", 9), deed), drive=drive)
            self.refused(errors.InvalidDeeds(), drive.perform, (("drop", 3), deed), drive=drive)
        for deeds in ([], [("drop", 3)], None, {}, "drop", 0, ("drop", 3), {0: ("drop", 3)}, ("add", 3, -1)):
            self.refused(errors.InvalidDeeds(), drive.perform, deeds, drive=drive)
        for value in strange_values():
            if value != ():
                self.refused(errors.InvalidDeeds(), drive.perform, value)
            self.refused(errors.InvalidDeeds(), drive.perform, (value,))

    def test_deeds_are_checked_ahead_of_all(self):
        drive = self.some()
        self.refused(errors.InvalidDeeds(), drive.perform, (("drop", 99), ("drop", 99, 99)))
        self.refused(errors.Refused(0), drive.perform, (("drop", 99), ("drop", None)))


class SideBySide(Drives):

    def test_two_drives(self):
        one, other = Drive(HOUSE, RULES), Drive(HOUSE, RULES)
        one.add(1)
        before = seen(other)
        one.add(2)
        one.move(1, 0)
        one.set_rules(())
        one.guard(0, ((2,),))
        one.checkpoint()
        one.record(("can", RULES, 3, (0,), (2,)))
        self.assertEqual(seen(other), before)
        self.assertEqual(other.add(2), 0)
        self.refused(errors.UnknownCheckpoint(0), other.restore, 0)
        self.assertEqual((other.rules(), one.rules()), (RULES, ()))

    def test_values_handed_in_and_given_out(self):
        deeds = (("add", 1, -1), ("add", 3, 0))
        kept = copy.deepcopy((HOUSE, RULES, deeds))
        drive = Drive(HOUSE, RULES)
        drive.perform(deeds)
        told = (drive.things(), drive.snapshot(), drive.path(1), drive.below(0), drive.rules(), drive.house())
        before = copy.deepcopy(told)
        drive.set_kind(0, ())
        drive.set_rules(())
        drive.drop(1)
        drive.add(0)
        self.assertEqual(told, before)
        self.assertEqual((HOUSE, RULES, deeds), kept)


class Anyhow(Drives):

    def test_long_runs_as_the_document_tells(self):
        rng = random.Random(25)
        words = {}
        for house, rules in list(SAMPLES) * 2 + random_samples(20):
            drive, model = Drive(house, rules), Model(house, rules)
            for _ in range(120):
                word, arguments = self.call(rng, house, model)
                told = outcome(getattr(drive, word), *arguments)
                self.assertEqual(told, outcome(getattr(model, word), *arguments), (word, arguments))
                kind = told[1].__name__ if told[0] == "error" else "value"
                words[word, kind] = words.get((word, kind), 0) + 1
                self.check(drive, model)
        for key in (
            ("add", "value"), ("add", "UnknownItem"), ("add", "UnknownThing"), ("add", "NotAFolder"), ("drop", "value"),
            ("drop", "Holds"), ("drop", "UnknownThing"), ("move", "value"), ("move", "NotLet"), ("move", "Within"),
            ("move", "NotAFolder"), ("move", "UnknownThing"), ("perform", "value"), ("perform", "Refused"),
        ):
            self.assertGreater(words[key], 10, key)

    def call(self, rng, house, model):
        numbers = list(model.things()) + [-1, model.now["next"]]
        if rng.random() < 0.05:
            numbers += [True, None, "0", [0]]
        word = rng.choice(("add", "add", "add", "add", "drop", "move", "move", "move", "perform"))
        if word == "add":
            return word, (rng.randrange(len(house[2]) + 1 + (rng.random() < 0.2)), rng.choice(numbers))
        if word == "perform":
            deeds = []
            for _ in range(rng.randrange(1, 4)):
                inner, arguments = self.call(rng, house, model)
                deeds.append((inner,) + arguments if inner != "perform" else ("add", 0, -1))
            return word, (tuple(deeds),)
        return word, (rng.choice(numbers),) + ((rng.choice(numbers),) if word == "move" else ())

    def check(self, drive, model):
        self.assertEqual(drive.things(), model.things())
        self.assertEqual(drive.snapshot(), model.snapshot())
        tree, numbers = drive.snapshot()
        require_tree(drive.house(), tree)
        self.assertEqual(tuple(drive.content(number) for number in numbers), contents_of(drive.house(), tree))
        for number in drive.things():
            self.assertIn(number, drive)
            self.assertEqual(drive.path(number), model.path(number))
            self.assertEqual(drive.below(number), model.below(number))
            self.assertEqual((drive.item(number), drive.above(number)), model.now["things"][number])
            if model.is_folder(number):
                self.assertEqual(drive.inside(number), model.place(number))
        self.assertEqual(len(drive), len(model.things()))


if __name__ == "__main__":
    unittest.main()
