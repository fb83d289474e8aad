"""What the document promises over the whole program, file by file and together; see points 1 and 3."""

import random
import unittest

from movedfolders.checker import first_fault
from movedfolders.claims import decide
from movedfolders.courses import course_cost, course_for, used_rules
from movedfolders.drives import Drive
from movedfolders.forecasts import forecast
from movedfolders.houses import contents
from movedfolders.pairs import place_pairs, thing_pairs
from movedfolders.tables import fewest, is_closed, least_table
from movedfolders.texts import format_house, format_rules, format_tree, parse_house, parse_rules, parse_tree
from movedfolders.trees import contents_of, let_moves, played
from movedfolders.unfolding import unfold
from movedfolders.withdrawals import cheapest, is_good, least_price
from tests.samples import SAMPLES, random_samples, random_task, random_tree
from tests.support import HOUSE

EVERY = tuple((item, ((0,), (1,), (2,)), ((0,), (1,), (2,))) for item in range(4))
SOME = list(SAMPLES) + [(HOUSE, EVERY)]


class Whole(unittest.TestCase):

    def said(self, house, claim):
        """Return the word for a claim, with a certificate that is accepted."""
        certificate = decide(house, claim)
        self.assertIsNone(first_fault(house, certificate))
        return certificate[0]

    def test_behind_each_move_a_thing_has_only_contents_of_its_forecast(self):
        rng = random.Random(50)
        done = 0
        for house, rules in SOME * 2 + random_samples(50):
            tree = random_tree(rng, house, 8)
            told = [{content: moves for content, moves, _ in forecast(house, rules, tree, k)} for k in range(8)]
            for many in range(1, 7):
                let = let_moves(house, rules, tree)
                if not let:
                    break
                tree = played(house, rules, tree, (rng.choice(let),))
                for thing, content in enumerate(contents_of(house, tree)):
                    self.assertIn(content, told[thing])
                    self.assertLessEqual(told[thing][content], many)
                    done += 1
        self.assertGreater(done, 500)

    def test_a_course_of_least_cost_unfolded_and_played(self):
        rng = random.Random(51)
        for house, rules in SOME + random_samples(40):
            for item in range(len(house[2]) + 1):
                pairs = thing_pairs(house, rules, item)
                for a, b in rng.sample(pairs, min(4, len(pairs))):
                    course = course_for(house, rules, item, a, b)
                    moves, things = fewest(house, rules, item, a, b)
                    self.assertEqual(course_cost(house, rules, item, course), (moves, things))
                    tree, thing, steps = unfold(house, rules, item, course)
                    self.assertEqual((len(steps), len(tree)), (moves, things + 1))
                    behind = played(house, rules, tree, steps)
                    self.assertEqual((contents_of(house, tree)[thing], contents_of(house, behind)[thing]), (a, b))
                    # In this tree it can come there by what is there already; no tree has it by fewer moves.
                    rows = {content: cost for content, *cost in forecast(house, rules, tree, thing)}
                    self.assertEqual(rows[b][0], moves)
                    self.assertEqual(self.said(house, ("can", rules, item, a, b)), "shown")
                    self.assertEqual(self.said(house, ("least", rules, item, a, b, moves)), "shown")
                    self.assertEqual(self.said(house, ("comes", rules, tree, thing, b, moves)), "shown")
                    self.assertEqual(self.said(house, ("safe", rules, (item, (a,), (b,)))), "broken")
                    self.assertEqual(self.said(house, ("never", rules, tree, thing, (b,))), "broken")

    def test_pairs_tables_and_claims_agree(self):
        for house, rules in SOME + random_samples(40):
            table = least_table(house, rules)
            self.assertTrue(is_closed(house, rules, table))
            self.assertEqual(tuple(row[:2] for row in table[0]), place_pairs(house, rules))
            for item in range(len(house[2]) + 1):
                pairs = thing_pairs(house, rules, item)
                self.assertEqual(tuple(row[1:3] for row in table[2] if row[0] == item), pairs)
                self.assertEqual(self.said(house, ("pairs", rules, item, pairs)), "shown")
                self.assertEqual(self.said(house, ("pairs", rules, item, pairs[1:])), "broken")

    def test_what_a_cheapest_withdrawal_leaves(self):
        rng = random.Random(52)
        found = []
        for house, rules in SOME * 3 + random_samples(60):
            task = random_task(rng, house, rules)
            withdrawal, price = cheapest(house, rules, task), least_price(house, rules, task)
            found.append(price)
            lost = self.said(house, ("lost", rules, task))
            if withdrawal is None:
                self.assertIsNone(price)
                self.assertEqual(lost, "shown")
                continue
            self.assertEqual(lost, "broken")
            self.assertEqual(self.said(house, ("withdraw", rules, task, price)), "shown")
            self.assertTrue(is_good(house, rules, task, withdrawal))
            self.left(rng, house, tuple(rule for k, rule in enumerate(rules) if k not in withdrawal), task)
        self.assertGreater(found.count(None), 10)
        self.assertGreater(len(set(found)), 4)

    def left(self, rng, house, rules, task):
        """See that by these rules no leak is there, in pairs, in forecasts and in claims, and each wish has a course."""
        leaks, wishes, _ = task
        tree = random_tree(rng, house, 10)
        for item, starts, seen in leaks:
            self.assertFalse([pair for pair in thing_pairs(house, rules, item) if pair[0] in starts and pair[1] in seen])
            self.assertEqual(self.said(house, ("safe", rules, (item, starts, seen))), "shown")
            for thing, content in enumerate(contents_of(house, tree)):
                if tree[thing][0] == item and content in starts:
                    rows = forecast(house, rules, tree, thing)
                    self.assertFalse([row for row in rows if row[0] in seen])
                    self.assertEqual(self.said(house, ("never", rules, tree, thing, seen)), "shown")
        for item, a, b in wishes:
            course = course_for(house, rules, item, a, b)
            self.assertIsNotNone(course)
            self.assertLessEqual(set(used_rules(course)), set(range(len(rules))))
            self.assertEqual(self.said(house, ("can", rules, item, a, b)), "shown")

    def test_without_rules_nothing_moves(self):
        rng = random.Random(53)
        for house, _ in SOME + random_samples(20):
            tree = random_tree(rng, house, 10)
            self.assertEqual(let_moves(house, (), tree), ())
            for thing, content in enumerate(contents_of(house, tree)):
                others = tuple(one for one in contents(house) if one != content)
                self.assertEqual(self.said(house, ("never", (), tree, thing, others)), "shown")
                self.assertEqual(self.said(house, ("comes", (), tree, thing, content, 0)), "shown")

    def test_a_drive_and_the_functions_tell_the_same(self):
        rng = random.Random(54)
        for house, rules in SOME + random_samples(30):
            tree = random_tree(rng, house, 1)
            drive = Drive(house, rules)
            for item, above in tree:
                drive.add(item, above)
            for _ in range(6):
                folders = [-1] + [number for number in drive.things() if drive.item(number) < len(house[2])]
                drive.add(rng.randrange(len(house[2]) + 1), rng.choice(folders))
            for _ in range(5):
                tree, numbers = drive.snapshot()
                self.assertEqual(tuple(drive.content(number) for number in numbers), contents_of(house, tree))
                for thing, number in enumerate(numbers):
                    self.assertEqual(drive.forecast(number), forecast(house, rules, tree, thing))
                    for content, moves, _ in drive.forecast(number):
                        self.assertEqual(self.said(house, ("comes", rules, tree, thing, content, moves)), "shown")
                let = let_moves(house, rules, tree)
                if let:
                    thing, target = rng.choice(let)
                    rule = drive.move(numbers[thing], target if target == -1 else numbers[target])
                    self.assertEqual(rules[rule][0], tree[thing][0])
                    self.assertEqual(drive.snapshot()[0], played(house, rules, tree, ((thing, target),)))

    def test_read_again_all_is_the_same(self):
        rng = random.Random(55)
        for house, rules in SOME + random_samples(20):
            tree = random_tree(rng, house, 5)
            other = parse_house(format_house(house))
            others = parse_rules(format_rules(rules), other)
            same = parse_tree(format_tree(tree), other)
            self.assertEqual(forecast(other, others, same, 4), forecast(house, rules, tree, 4))
            self.assertEqual(least_table(other, others), least_table(house, rules))


if __name__ == "__main__":
    unittest.main()
