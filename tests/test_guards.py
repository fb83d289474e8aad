"""Points 3 and 19, and the interface, movedfolders/drives.py: checkpoints, guards and records."""

import copy
import random
import unittest

from movedfolders import errors
from movedfolders.checker import first_fault
from movedfolders.claims import decide
from movedfolders.drives import Drive
from movedfolders.houses import contents
from movedfolders.tables import is_closed
from tests import judge
from tests.claiming import FALSE, HOPELESS, TASK, TRUE, claims_about
from tests.driving import Model, outcome, seen
from tests.samples import SAMPLES, random_samples, random_step
from tests.support import HOUSE, RULES, put, strange_values

NO_NUMBERS = (-1, True, False, None, "0", "", (0,), [0], {}, 10 ** 79, (), [])
WRONG_SOMES = (
    [(0,)], (), [], ((1,), (0,)), ((0,), (0,)), ((3,),), ((0, 0),), ([0],), (0,), ((True,),), None, {(0,): 1},
    ((0,), (2,), (1,)), "0", 0, (None,), ((1,), [2]),
)


class Keeping(unittest.TestCase):

    def refused(self, error, told, *arguments):
        with self.assertRaises(error.__class__) as caught:
            told(*arguments)
        self.assertIs(caught.exception.__class__, error.__class__)
        self.assertEqual(vars(caught.exception), vars(error))

    def some(self):
        """Return a drive with a team (0), a wide folder (1), a leaf in that (2), and a leaf in the team (3)."""
        drive = Drive(HOUSE, RULES)
        self.assertEqual([drive.add(1), drive.add(2), drive.add(3, 1), drive.add(3, 0)], [0, 1, 2, 3])
        return drive

    def state(self, drive):
        """Return what a checkpoint keeps, as far as it is told."""
        return (drive.house(), drive.rules(), drive.snapshot(), [drive.guarded(number) for number in drive.guards()])


class Checkpoints(Keeping):

    def test_four_and_one_more(self):
        drive = self.some()
        for number in range(4):
            self.assertEqual(drive.checkpoint(), number)
        before = seen(drive)
        self.refused(errors.LimitExceeded(4), drive.checkpoint)
        self.assertEqual(seen(drive), before)
        for number in (0, 3, 3, 1):
            self.assertIsNone(drive.restore(number))
            self.refused(errors.LimitExceeded(4), drive.checkpoint)

    def test_unknown_checkpoints(self):
        drive = self.some()
        for number in NO_NUMBERS + (0, 1):
            self.refused(errors.UnknownCheckpoint(number), drive.restore, number)
        drive.checkpoint()
        before = seen(drive)
        for number in NO_NUMBERS + (1, 4):
            self.refused(errors.UnknownCheckpoint(number), drive.restore, number)
        for value in strange_values():
            if value.__class__ is not int or value != 0:
                with self.assertRaises(errors.UnknownCheckpoint):
                    drive.restore(value)
        self.assertEqual(seen(drive), before)
        self.assertIsNone(drive.restore(number=0))

    def test_all_comes_back(self):
        drive = self.some()
        drive.guard(0, ((1,), (2,)))
        before = self.state(drive)
        forecasts = [drive.forecast(number) for number in drive.things()]
        drive.checkpoint()
        drive.set_kind(1, ())
        drive.set_rules(())
        drive.guard(1, ((1,),))
        drive.drop(3)
        drive.drop(0)
        drive.add(3, 1)
        self.assertNotEqual(self.state(drive), before)
        self.assertEqual(drive.guards(), (1,))
        drive.restore(0)
        self.assertEqual(self.state(drive), before)
        self.assertEqual([drive.forecast(number) for number in drive.things()], forecasts)
        self.assertEqual((drive.add(3), drive.guards()), (4, (0,)))

    def test_numbers_that_come_next_come_back(self):
        drive = self.some()
        drive.checkpoint()
        self.assertEqual([drive.add(3), drive.add(3)], [4, 5])
        self.assertEqual([drive.guard(0, ((1,),)), drive.guard(0, ((2,),))], [0, 1])
        drive.restore(0)
        self.assertEqual((drive.things(), drive.guards()), ((0, 1, 2, 3), ()))
        self.assertEqual((drive.add(1), drive.guard(0, ((2,),))), (4, 0))
        self.assertEqual((drive.item(4), drive.guarded(0)[1]), (1, ((2,),)))

    def test_restored_twice_and_earlier_and_later_ones(self):
        drive = Drive(HOUSE, RULES)
        states = []
        for number in range(4):
            states.append(self.state(drive))
            self.assertEqual(drive.checkpoint(), number)
            drive.add(number)
            drive.guard(0, ((1,), (2,))) if number == 0 else drive.set_rules(RULES * number)
        for number in (3, 3, 0, 0, 2, 1, 3, 0, 2):
            drive.restore(number)
            self.assertEqual(self.state(drive), states[number])
            # What is done behind it changes no checkpoint.
            drive.add(3)
            drive.set_kind(0, ())
            drive.set_rules(())
            while drive.guards():
                drive.drop(0)

    def test_a_checkpoint_behind_a_restore(self):
        drive = self.some()
        drive.checkpoint()
        drive.drop(3)
        drive.restore(0)
        self.assertEqual(drive.checkpoint(), 1)
        drive.drop(3)
        self.assertEqual(drive.checkpoint(), 2)
        drive.restore(1)
        self.assertEqual(drive.things(), (0, 1, 2, 3))
        drive.restore(2)
        self.assertEqual(drive.things(), (0, 1, 2))

    def test_records_stay(self):
        drive = self.some()
        drive.checkpoint()
        drive.record(TRUE[0])
        certificate = drive.recorded(0)
        drive.restore(0)
        self.assertEqual((drive.records(), drive.recorded(0)), (1, certificate))
        self.assertEqual(drive.record(TRUE[1]), 1)


class Guards(Keeping):

    def test_making(self):
        drive = self.some()
        self.assertEqual(drive.guards(), ())
        self.assertEqual(drive.guard(0, ((1,), (2,))), 0)
        self.assertEqual(drive.guard(contents=((0,),), thing=3), 1)
        self.assertEqual(drive.guards(), (0, 1))
        thing, some, table = drive.guarded(0)
        self.assertEqual((thing, some), (0, ((1,), (2,))))
        self.assertTrue(is_closed(HOUSE, RULES, table))
        self.assertEqual(drive.guarded(number=1)[:2], (3, ((0,),)))
        self.assertIsNone(drive.holding(0))
        self.assertIsNone(drive.holding(number=1))

    def test_unknown_things(self):
        drive = self.some()
        for thing in NO_NUMBERS + (4,):
            self.refused(errors.UnknownThing(thing), drive.guard, thing, ())
            self.refused(errors.UnknownThing(thing), drive.guard, thing, ((1,),))
        self.assertEqual(drive.guard(0, ((1,),)), 0)

    def test_contents(self):
        drive = self.some()
        before = seen(drive)
        for some in WRONG_SOMES:
            self.refused(errors.InvalidContent(some), drive.guard, 0, some)
        for value in strange_values():
            with self.assertRaises(errors.InvalidContent):
                drive.guard(0, value)
        self.assertEqual(seen(drive), before)

    def test_reachable(self):
        drive = self.some()
        before = seen(drive)
        for thing, some, least in (
            (0, ((0,),), (0,)), (0, contents(HOUSE), (0,)), (1, ((1,), (2,)), (1,)), (1, ((2,),), (2,)), (2, ((1,), (2,)), (2,)),
            (3, ((0,), (1,)), (1,)), (3, ((1,), (2,)), (1,)), (2, ((0,), (2,)), (0,)),
        ):
            self.refused(errors.Reachable(least), drive.guard, thing, some)
        self.assertEqual(seen(drive), before)
        # A refused guard uses no number.
        self.assertEqual(drive.guard(2, ((1,),)), 0)

    def test_eight_and_one_more(self):
        drive = self.some()
        for number in range(8):
            self.assertEqual(drive.guard(0, ((1,),)), number)
        before = seen(drive)
        self.refused(errors.LimitExceeded(8), drive.guard, 0, ((1,),))
        self.refused(errors.LimitExceeded(8), drive.guard, 0, ((0,),))
        self.refused(errors.InvalidContent(()), drive.guard, 0, ())
        self.refused(errors.UnknownThing(9), drive.guard, 9, ((1,),))
        self.assertEqual(seen(drive), before)
        self.assertEqual(drive.guards(), tuple(range(8)))

    def test_it_goes_with_its_thing(self):
        drive = self.some()
        for thing, some in ((3, ((0,),)), (2, ((1,),)), (3, ((2,),)), (0, ((1,),))):
            drive.guard(thing, some)
        drive.drop(3)
        self.assertEqual(drive.guards(), (1, 3))
        for number in (0, 2):
            self.refused(errors.UnknownGuard(number), drive.guarded, number)
            self.refused(errors.UnknownGuard(number), drive.holding, number)
        # A number is not given again, and those that went are of no account for the limit.
        self.assertEqual([drive.guard(2, ((1,),)) for _ in range(6)], [4, 5, 6, 7, 8, 9])
        self.refused(errors.LimitExceeded(8), drive.guard, 2, ((1,),))
        drive.drop(2)
        self.assertEqual(drive.guards(), (3,))

    def test_it_stays_if_its_thing_is_not_dropped(self):
        drive = self.some()
        drive.guard(0, ((1,),))
        before = self.state(drive)
        self.refused(errors.Holds(0), drive.drop, 0)
        with self.assertRaises(errors.Refused):
            drive.perform((("drop", 3), ("drop", 0), ("drop", 0)))
        self.assertEqual(self.state(drive), before)
        self.assertEqual(drive.perform((("drop", 3), ("drop", 0))), (None, None))
        self.assertEqual(drive.guards(), ())

    def test_unknown_guards(self):
        drive = self.some()
        drive.guard(0, ((1,),))
        for number in NO_NUMBERS + (1, 8):
            self.refused(errors.UnknownGuard(number), drive.guarded, number)
            self.refused(errors.UnknownGuard(number), drive.holding, number)
        for value in strange_values():
            if value.__class__ is not int or value != 0:
                for told in (drive.guarded, drive.holding):
                    with self.assertRaises(errors.UnknownGuard):
                        told(value)

    def test_rules_and_kinds_by_which_it_holds_no_more(self):
        drive = self.some()
        drive.guard(2, ((1,),))
        drive.guard(0, ((2,),))
        drive.set_rules(RULES + ((3, ((2,),), ((1,),)),))
        self.assertEqual(drive.holding(0)[0], "move")
        self.assertEqual(drive.holding(0), drive.holding(1))
        drive.set_rules(RULES)
        self.assertEqual((drive.holding(0), drive.holding(1)), (None, None))
        # The leaf lies in a wide folder, and has 1 now.
        drive.set_kind(2, (("set", 0, 1),))
        self.assertEqual((drive.holding(0), drive.holding(1)), (("content",), None))
        drive.set_kind(2, HOUSE[2][2])
        self.assertEqual((drive.holding(0), drive.holding(1)), (None, None))
        # A team makes (0, 2) of what the table has from 0 to 1.
        drive.set_kind(1, (("when", 0, 2, 2, ("set", 0, 1)),))
        self.assertEqual((drive.holding(0), drive.holding(1)), (("place", 6), ("place", 6)))

    def test_content_of_a_table_that_is_still_closed(self):
        # Two kinds that change places: the table is closed, but the thing lies in the other one now.
        drive = Drive(((3,), (0,), ((("set", 0, 1),), (("set", 0, 2),))), ())
        drive.add(0)
        drive.add(2, 0)
        drive.guard(1, ((2,),))
        drive.set_kind(0, (("set", 0, 2),))
        self.assertEqual(drive.holding(0), ("content",))
        drive.set_kind(0, (("set", 0, 0),))
        self.assertIsNone(drive.holding(0))

    def test_as_before_behind_a_restore(self):
        drive = self.some()
        drive.guard(2, ((1,),))
        drive.checkpoint()
        drive.set_rules(RULES + ((3, ((2,),), ((1,),)),))
        drive.drop(2)
        self.assertEqual(drive.guards(), ())
        drive.restore(0)
        self.assertEqual((drive.guards(), drive.holding(0)), ((0,), None))

    def certificate(self, drive, number):
        thing, some, table = drive.guarded(number)
        tree, numbers = drive.snapshot()
        return ("shown", ("never", drive.rules(), tree, numbers.index(thing), some), table)

    def guarded_drive(self, rng, house, rules):
        """Return a drive with things, and a guard for each of some of them."""
        drive = Drive(house, rules)
        for _ in range(8):
            folders = [-1] + [number for number in drive.things() if drive.item(number) < len(house[2])]
            drive.add(rng.randrange(len(house[2]) + 1), rng.choice(folders))
        for thing in drive.things():
            reach = [row[0] for row in drive.forecast(thing)]
            some = tuple(content for content in contents(house) if content not in reach)
            if some and len(drive.guards()) < 8:
                drive.guard(thing, some)
        return drive

    def test_what_it_holds_behind(self):
        rng = random.Random(32)
        done = 0
        for house, rules in list(SAMPLES) * 2 + random_samples(40):
            drive = self.guarded_drive(rng, house, rules)
            for _ in range(30):
                word = rng.choice(("add", "move", "move", "drop", "perform", "set_rules"))
                numbers = (-1,) + drive.things()
                if word == "add":
                    outcome(drive.add, rng.randrange(len(house[2]) + 1), rng.choice(numbers))
                elif word == "drop":
                    outcome(drive.drop, rng.choice(numbers))
                elif word == "set_rules":
                    left = [rule for rule in drive.rules() if rng.random() < 0.8]
                    drive.set_rules(tuple(rng.sample(left, len(left))))
                else:
                    move = (rng.choice(numbers), rng.choice(numbers))
                    if word == "move":
                        outcome(drive.move, *move)
                    else:
                        outcome(drive.perform, (("add", 0, -1), ("move",) + move))
                for number in drive.guards():
                    self.assertIsNone(drive.holding(number))
                    done += 1
                    thing, some, _ = drive.guarded(number)
                    self.assertEqual([row for row in drive.forecast(thing) if row[0] in some], [])
        self.assertGreater(done, 3000)

    def test_behind_other_calls(self):
        """It holds exactly if the checker accepts its table for the house, the rules and the tree of now."""
        rng = random.Random(33)
        found = []
        for house, rules in list(SAMPLES) * 2 + random_samples(40):
            drive = self.guarded_drive(rng, house, rules)
            for _ in range(4):
                if rng.random() < 0.5:
                    drive.set_kind(rng.randrange(len(house[2])), (random_step(rng, house[0]),))
                else:
                    item = rng.randrange(len(house[2]) + 1)
                    more = (item, (rng.choice(contents(house)),), (rng.choice(contents(house)),))
                    drive.set_rules((drive.rules() + (more,))[-6:])
                for number in drive.guards():
                    certificate = self.certificate(drive, number)
                    found.append(drive.holding(number))
                    self.assertEqual(found[-1], first_fault(drive.house(), certificate))
                    self.assertEqual(found[-1], judge.first_fault(drive.house(), certificate))
        self.assertGreater(found.count(None), 20)
        heads = {fault[0] for fault in found if fault is not None}
        self.assertGreaterEqual(heads, {"move", "place"})


class Records(Keeping):

    def test_deciding(self):
        drive = self.some()
        for claim in TRUE + FALSE:
            self.assertEqual(drive.decide(claim), decide(HOUSE, claim))
            self.assertEqual(drive.decide(claim=claim), decide(HOUSE, claim))
        self.assertEqual(drive.records(), 0)
        # As for the house as it is; the rules and the things of the drive are of no account.
        drive.set_rules(())
        drive.set_kind(2, ())
        for claim in TRUE + FALSE:
            self.assertEqual(drive.decide(claim), decide(drive.house(), claim))

    def test_recording(self):
        drive = self.some()
        for number, claim in enumerate(TRUE):
            self.assertEqual(drive.record(claim), number)
            self.assertEqual(drive.records(), number + 1)
        for number, claim in enumerate(TRUE):
            word, of, _ = drive.recorded(number)
            self.assertEqual((word, of), ("shown", claim))
            self.assertIsNone(first_fault(HOUSE, drive.recorded(number)))
            self.assertIsNone(drive.standing(number))
            self.assertIsNone(drive.standing(number=number))
            self.assertEqual(drive.recorded(number=number), drive.recorded(number))

    def test_eight_and_one_more(self):
        drive = Drive(HOUSE, RULES)
        for number in range(8):
            self.assertEqual(drive.record(claim=FALSE[number]), number)
        self.refused(errors.LimitExceeded(8), drive.record, TRUE[0])
        self.refused(errors.LimitExceeded(8), drive.record, None)
        self.assertEqual(drive.records(), 8)
        drive.checkpoint()
        drive.restore(0)
        self.refused(errors.LimitExceeded(8), drive.record, TRUE[0])
        self.assertEqual(drive.decide(TRUE[0]), decide(HOUSE, TRUE[0]))

    def test_no_claims(self):
        drive = self.some()
        for told in (drive.decide, drive.record):
            for claim in ((), None, TRUE[0][:4], list(TRUE[0]), put(TRUE[0], 2, True), ("lost", (), TASK), "can"):
                self.refused(errors.InvalidClaim(), told, claim)
            for value in strange_values():
                self.refused(errors.InvalidClaim(), told, value)
        self.assertEqual(drive.records(), 0)
        self.assertEqual(drive.record(TRUE[0]), 0)

    def test_unknown_records(self):
        drive = self.some()
        for number in NO_NUMBERS + (0,):
            self.refused(errors.UnknownRecord(number), drive.recorded, number)
            self.refused(errors.UnknownRecord(number), drive.standing, number)
        drive.record(TRUE[0])
        for number in NO_NUMBERS + (1,):
            self.refused(errors.UnknownRecord(number), drive.recorded, number)
            self.refused(errors.UnknownRecord(number), drive.standing, number)

    def test_standing(self):
        drive = self.some()
        drive.record(("can", RULES, 3, (0,), (2,)))
        drive.record(("can", RULES, 3, (0,), (1,)))
        drive.record(("lost", RULES, HOPELESS))
        # The rules and the things of the drive are of no account.
        drive.set_rules(())
        drive.drop(2)
        self.assertEqual([drive.standing(number) for number in range(3)], [None] * 3)
        drive.set_kind(2, ())
        self.assertEqual(drive.standing(0), ("pair",))
        for number in range(3):
            fault = judge.first_fault(drive.house(), drive.recorded(number))
            self.assertEqual(drive.standing(number), fault)
        drive.set_kind(2, HOUSE[2][2])
        self.assertEqual([drive.standing(number) for number in range(3)], [None] * 3)

    def test_standing_anyhow(self):
        rng = random.Random(34)
        found = []
        for house, rules in list(SAMPLES) + random_samples(25):
            drive = Drive(house, rules)
            claims = claims_about(rng, house, rules)
            kept = []
            for claim in rng.sample(claims, 8):
                drive.record(claim)
                kept.append(decide(house, claim))
            drive.checkpoint()
            for _ in range(3):
                drive.set_kind(rng.randrange(len(house[2])), (random_step(rng, house[0]),))
                for number in range(8):
                    self.assertEqual(drive.recorded(number)[:2], kept[number][:2])
                    found.append(drive.standing(number))
                    self.assertEqual(found[-1], judge.first_fault(drive.house(), drive.recorded(number)))
            drive.restore(0)
            self.assertEqual([drive.standing(number) for number in range(8)], [None] * 8)
        self.assertGreater(found.count(None), 50)
        self.assertGreater(len(found) - found.count(None), 50)

    def test_given_out_once_and_for_all(self):
        drive = self.some()
        drive.record(TRUE[3])
        drive.guard(0, ((1,),))
        told = (drive.recorded(0), drive.guarded(0), drive.guards())
        before = copy.deepcopy(told)
        drive.set_kind(0, ())
        drive.set_rules(())
        drive.guard(0, ((2,),))
        drive.perform((("drop", 3), ("drop", 0)))
        self.assertEqual(told, before)
        self.assertEqual(drive.recorded(0), before[0])


class Anyhow(Keeping):

    def test_long_runs_as_the_document_tells(self):
        rng = random.Random(35)
        words = {}
        for house, rules in list(SAMPLES) * 2 + random_samples(15):
            drive, model = Drive(house, rules), Model(house, rules)
            for _ in range(100):
                word, arguments = self.call(rng, house, rules, model)
                told = outcome(getattr(drive, word), *arguments)
                self.assertEqual(told, outcome(getattr(model, word), *arguments), (word, arguments))
                kind = told[1].__name__ if told[0] == "error" else "value"
                words[word, kind] = words.get((word, kind), 0) + 1
                self.assertEqual((drive.house(), drive.rules()), (model.now["house"], model.now["rules"]))
                self.assertEqual((drive.snapshot(), drive.guards()), (model.snapshot(), model.guards()))
                for number in drive.guards():
                    self.assertEqual(drive.guarded(number)[:2], model.now["guards"][number])
                if drive.things():
                    thing = rng.choice(drive.things())
                    self.assertEqual(drive.forecast(thing), model.forecast(thing))
        for key in (
            ("guard", "value"), ("guard", "Reachable"), ("guard", "UnknownThing"), ("guard", "InvalidContent"),
            ("checkpoint", "value"), ("checkpoint", "LimitExceeded"), ("restore", "value"), ("set_kind", "value"),
            ("restore", "UnknownCheckpoint"), ("set_rules", "value"), ("perform", "Refused"), ("drop", "value"),
        ):
            self.assertGreater(words.get(key, 0), 10, key)

    def call(self, rng, house, rules, model):
        numbers = list(model.things()) + [model.now["next"], -1]
        word = rng.choice((
            "add", "add", "add", "drop", "move", "move", "perform", "set_rules", "set_kind", "checkpoint", "restore", "guard", "guard",
        ))
        if word == "add":
            return word, (rng.randrange(len(house[2]) + 1), rng.choice(numbers))
        if word == "perform":
            return word, ((("drop", rng.choice(numbers)), ("move", rng.choice(numbers), rng.choice(numbers))),)
        if word == "set_rules":
            return word, (tuple(rule for rule in rules if rng.random() < 0.7),)
        if word == "set_kind":
            return word, (rng.randrange(len(house[2])), (random_step(rng, house[0]),))
        if word in ("checkpoint", "restore"):
            return word, () if word == "checkpoint" else (rng.randrange(len(model.kept) + 1),)
        if word == "guard":
            known = contents(house)
            some = tuple(sorted(rng.sample(known, rng.choice((1, 1, 2)))))
            return word, (rng.choice(numbers), some if rng.random() < 0.9 else some + some)
        return word, (rng.choice(numbers),) + ((rng.choice(numbers),) if word == "move" else ())


if __name__ == "__main__":
    unittest.main()
