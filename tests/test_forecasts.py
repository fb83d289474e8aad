"""Points 2, 3 and 13, and the interface, movedfolders/forecasts.py."""

import copy
import itertools
import random
import unittest

from movedfolders.forecasts import forecast
from movedfolders.houses import contents
from movedfolders.pairs import thing_pairs
from movedfolders.tables import fewest
from movedfolders.trees import contents_of, let_moves, played, require_tree
from tests import oracles
from tests.samples import (
    CUBE, CUBE_RULES, ONE_BY_ONE, ONE_BY_ONE_RULES, SAMPLES, STAIRS, STAIRS_RULES, TRAP, TRAP_RULES, TWO_RULES,
    random_samples, random_tree, renumbered,
)
from tests.support import HOUSE, RULES, TWO

TREE = ((0, -1), (1, -1), (2, 0), (3, 2))
EVERY = tuple((item, ((0,), (1,), (2,)), ((0,), (1,), (2,))) for item in range(4))


def moves_of(rows):
    return {content: moves for content, moves, _ in rows}


class Forecasts(unittest.TestCase):

    def check(self, house, rules, tree, thing):
        """Compare with the document's words; return the forecast as a dict."""
        before = copy.deepcopy((house, rules, tree))
        rows = forecast(house, rules, tree, thing)
        self.assertEqual((house, rules, tree), before)
        self.assertIs(rows.__class__, tuple)
        for row in rows:
            self.assertIs(row.__class__, tuple)
            self.assertEqual([part.__class__ for part in row], [tuple, int, int])
        keys = [row[0] for row in rows]
        self.assertEqual(keys, sorted(set(keys)))
        found = {row[0]: row[1:] for row in rows}
        self.assertEqual(found, oracles.forecast_of(house, rules, tree, thing))
        return found


class ByHand(Forecasts):

    def test_the_example(self):
        self.assertEqual(forecast(HOUSE, RULES, TREE, 2), (((0,), 0, 0), ((1,), 1, 1), ((2,), 2, 3)))
        self.assertEqual(forecast(HOUSE, RULES, TREE, 1), (((0,), 0, 0),))
        self.assertEqual(forecast(HOUSE, RULES, TREE, 3), (((0,), 0, 0), ((2,), 1, 1)))

    def test_things_in_the_root(self):
        self.assertEqual(forecast(HOUSE, (), ((3, -1),), 0), (((0,), 0, 0),))
        self.assertEqual(forecast(HOUSE, RULES, ((3, -1),), 0), (((0,), 0, 0),))
        self.assertEqual(forecast(HOUSE, RULES, ((2, -1),), 0), (((0,), 0, 0), ((1,), 1, 1), ((2,), 2, 3)))
        self.assertEqual(forecast(TWO, (), ((0, -1),), 0), (((1, 3), 0, 0),))

    def test_a_rule_of_the_thing_itself(self):
        rules = ((3, ((1,),), ((0,), (2,))),)
        tree = ((1, -1), (3, 0), (3, -1))
        # A place with 2 is made by wide in team.
        self.assertEqual(self.check(HOUSE, rules, tree, 1), {(0,): (1, 0), (1,): (0, 0), (2,): (1, 2)})
        self.assertEqual(self.check(HOUSE, rules, tree, 2), {(0,): (0, 0)})

    def test_a_rule_of_a_folder_above_it(self):
        tree = ((2, -1), (2, 0), (3, 1))
        self.assertEqual(self.check(HOUSE, RULES, tree, 2), {(0,): (0, 0), (2,): (1, 1)})
        deep = ((2, -1), (1, 0), (3, 1))
        self.assertEqual(self.check(HOUSE, RULES, deep, 2), {(1,): (0, 0), (2,): (1, 1)})

    def test_rules_of_both(self):
        rules = RULES + ((3, ((2,),), ((1,),)),)
        self.assertEqual(self.check(HOUSE, rules, ((2, -1), (3, 0)), 1), {(0,): (0, 0), (2,): (1, 1), (1,): (2, 2)})
        # Where only the thing's own rule helps, and only together with that of the folder.
        self.assertEqual(self.check(HOUSE, rules, ((3, -1),), 0), {(0,): (0, 0)})

    def test_no_rules(self):
        rng = random.Random(3)
        for house, _ in SAMPLES:
            tree = random_tree(rng, house, 30)
            for thing, content in enumerate(contents_of(house, tree)):
                self.assertEqual(forecast(house, (), tree, thing), ((content, 0, 0),))

    def test_costs_are_compared_as_tuples(self):
        # The first kind makes 7 of 3 and of 5: one move into what three folders make, or two into what one makes.
        kinds = (
            (("when", 0, 3, 3, ("set", 0, 7)), ("when", 0, 5, 5, ("set", 0, 7))), (("set", 0, 4),), (("set", 0, 5),),
            tuple(("when", 0, v, v, ("set", 0, v + 1)) for v in (2, 1, 0)),
        )
        house = ((8,), (0,), kinds)
        near = ((0, ((0,),), ((4,),)), (0, ((4,),), ((5,),)))
        tree = ((0, -1), (4, 0))
        self.assertEqual(self.check(house, near, tree, 1)[(7,)], (2, 2))
        self.assertEqual(self.check(house, near + ((0, ((0,),), ((3,),)),), tree, 1)[(7,)], (1, 3))
        self.assertEqual(self.check(house, ((0, ((0,),), ((3,), (5,))),) + near, tree, 1)[(7,)], (1, 1))

    def test_pairs_do_not_join(self):
        tree = ((2, -1), (0, 0), (5, 1))
        found = self.check(TRAP, TRAP_RULES, tree, 2)
        self.assertNotIn((2,), found)
        self.assertEqual(self.check(TRAP, TRAP_RULES, ((5, -1),), 0), {(0,): (0, 0)})
        self.assertEqual(self.check(TRAP, TRAP_RULES, ((0, -1), (5, 0)), 1), {(0,): (0, 0), (1,): (1, 1), (2,): (3, 4)})

    def test_contents_that_come_about_nowhere(self):
        rules = ((2, ((1, 3),), ((0, 0), (1, 0))),)
        self.assertEqual(self.check(TWO, rules, ((2, -1),), 0), {(1, 3): (0, 0)})

    def test_what_is_there_already_is_of_no_use(self):
        # Folders of the tree are put in once more: only its path counts.
        tree = ((1, -1), (2, -1), (3, 1))
        self.assertEqual(self.check(HOUSE, RULES, tree, 1), {(0,): (0, 0), (1,): (1, 1), (2,): (2, 3)})
        self.assertEqual(forecast(HOUSE, RULES, tree, 2), forecast(HOUSE, RULES, tree[1:2] + ((2, -1), (3, 0)), 2))


class LargeTrees(Forecasts):

    def test_a_path_of_two_hundred(self):
        tree = tuple((2, k - 1) for k in range(199)) + ((3, 198),)
        self.assertEqual(self.check(HOUSE, RULES, tree, 199), {(0,): (0, 0), (2,): (1, 1)})
        self.assertEqual(self.check(HOUSE, RULES, tree, 0), {(0,): (0, 0), (1,): (1, 1), (2,): (2, 3)})
        self.assertEqual(self.check(HOUSE, RULES, tree, 100), {(0,): (0, 0), (1,): (1, 1), (2,): (1, 1)})

    def test_costs_add_up_along_a_path(self):
        # Each folder must be moved on its own, for its inside changes with it alone.
        house = ((3,), (0,), ((("when", 0, 0, 0, ("set", 0, 0)),), (("set", 0, 1),)))
        rules = ((0, ((0,),), ((1,),)), (2, ((1,),), ((0,),)))
        tree = tuple((0, k - 1) for k in range(199)) + ((2, 198),)
        self.assertEqual(self.check(house, rules, tree, 199), {(0,): (0, 0), (1,): (1, 1)})

    def test_many_moves_on_one_path(self):
        # What is moved into 1 makes 0 of it again for what lies below.
        house = ((2,), (0,), ((("lower", 0, 0),), (("set", 0, 1),)))
        rules = ((0, ((0,),), ((1,),)),)
        tree = tuple((0, k - 1) for k in range(5))
        self.assertEqual(self.check(house, rules, tree, 4), {(0,): (0, 0), (1,): (1, 1)})

    def test_dense_houses(self):
        rng = random.Random(8)
        tree = random_tree(rng, CUBE, 200)
        for thing in (0, 57, 199):
            self.check(CUBE, CUBE_RULES, tree, thing)

    def test_things_numbered_anyhow(self):
        rng = random.Random(5)
        for house, rules in SAMPLES:
            tree = random_tree(rng, house, 60)
            order = list(range(60))
            rng.shuffle(order)
            other = renumbered(tree, order)
            for thing in range(60):
                self.assertEqual(forecast(house, rules, tree, thing), forecast(house, rules, other, order[thing]))

    def test_against_the_words_of_the_document(self):
        rng = random.Random(13)
        for house, rules in list(SAMPLES) + [(HOUSE, EVERY), (CUBE, CUBE_RULES[:2])] + random_samples(120):
            tree = random_tree(rng, house, rng.choice((1, 3, 8, 20)))
            for thing in rng.sample(range(len(tree)), min(4, len(tree))):
                self.check(house, rules, tree, thing)


class WhatCanBeComeTo(Forecasts):

    def test_a_forecast_has_only_pairs_from_the_content_of_now(self):
        for house, rules in list(SAMPLES) + random_samples(30):
            tree = random_tree(random.Random(9), house, 12)
            for thing, (item, _) in enumerate(tree):
                now = contents_of(house, tree)[thing]
                pairs = thing_pairs(house, rules, item)
                for content, moves, _ in forecast(house, rules, tree, thing):
                    self.assertIn((now, content), pairs)
                    self.assertGreaterEqual(moves, fewest(house, rules, item, now, content)[0])

    def test_by_moves_with_things_added(self):
        """All that comes about by moves in small trees, things added first, is told, and by no fewer moves."""
        rng = random.Random(21)
        some = list(SAMPLES) + [(HOUSE, EVERY)] + random_samples(25)
        found = 0
        for house, rules in some:
            tree = random_tree(rng, house, rng.choice((1, 2, 3)))
            told = [moves_of(forecast(house, rules, tree, thing)) for thing in range(len(tree))]
            for larger in self.larger(rng, house, tree):
                for behind, moves in self.played_on(house, rules, larger):
                    for thing, content in enumerate(contents_of(house, behind)[:len(tree)]):
                        self.assertIn(content, told[thing])
                        self.assertLessEqual(told[thing][content], moves)
                        found += moves > 0
        self.assertGreater(found, 1000)

    def larger(self, rng, house, tree):
        """Return the tree and some that extend it by up to four things."""
        found = [tree]
        for _ in range(6):
            more = tree
            for _ in range(rng.randrange(1, 5)):
                folders = [-1] + [k for k, (item, _) in enumerate(more) if item < len(house[2])]
                more = more + ((rng.randrange(len(house[2]) + 1), rng.choice(folders)),)
            found.append(more)
        return found

    def played_on(self, house, rules, tree):
        """Return (tree, how many moves) for all that up to three moves make of a tree."""
        seen, newest = {tree: 0}, [tree]
        for moves in (1, 2, 3):
            behind = [oracles.moved(one, *move) for one in newest for move in let_moves(house, rules, one)]
            newest = sorted(set(behind) - set(seen))[:40]
            seen.update({one: moves for one in newest})
        return seen.items()

    def test_a_content_that_comes_about_by_three_things_more(self):
        self.assertEqual(forecast(HOUSE, RULES, ((2, -1),), 0)[2], ((2,), 2, 3))
        # Into the team within another wide folder, and then this one into another team.
        tree = ((2, -1), (2, -1), (1, 1), (1, -1))
        behind = played(HOUSE, RULES, tree, ((0, 2), (1, 3)))
        self.assertEqual(contents_of(HOUSE, behind)[0], (2,))


class BehindMovesAndAdds(Forecasts):

    def samples(self):
        rng = random.Random(31)
        for house, rules in list(SAMPLES) + [(HOUSE, EVERY)] + random_samples(60):
            yield rng, house, rules, random_tree(rng, house, rng.choice((2, 5, 9)))

    def test_a_thing_more_changes_no_other_forecast(self):
        for rng, house, rules, tree in self.samples():
            before = [forecast(house, rules, tree, thing) for thing in range(len(tree))]
            folders = [-1] + [k for k, (item, _) in enumerate(tree) if item < len(house[2])]
            for above in rng.sample(folders, min(3, len(folders))):
                larger = tree + ((rng.randrange(len(house[2]) + 1), above),)
                after = [forecast(house, rules, larger, thing) for thing in range(len(tree))]
                self.assertEqual(after, before)

    def test_a_move_takes_away_only_and_changes_what_lies_below_alone(self):
        moves, lowered = 0, 0
        for rng, house, rules, tree in self.samples():
            before = [forecast(house, rules, tree, thing) for thing in range(len(tree))]
            let = let_moves(house, rules, tree)
            for thing, target in rng.sample(let, min(4, len(let))):
                behind = oracles.moved(tree, thing, target)
                moves += 1
                for one in range(len(tree)):
                    after = forecast(house, rules, behind, one)
                    if thing not in oracles.above_all(tree, one):
                        self.assertEqual(after, before[one])
                    ahead = moves_of(before[one])
                    for content, many in moves_of(after).items():
                        self.assertIn(content, ahead)
                        self.assertGreaterEqual(many, ahead[content] - 1)
                        lowered += many < ahead[content]
        self.assertGreater(moves, 40)
        self.assertGreater(lowered, 10)

    def test_with_rules_left_out_nothing_comes_in(self):
        for rng, house, rules, tree in self.samples():
            thing = rng.randrange(len(tree))
            before = moves_of(forecast(house, rules, tree, thing))
            for index in range(len(rules)):
                for left in (rules[:index] + rules[index + 1:], rules[:index], rules[index + 1:]):
                    after = moves_of(forecast(house, left, tree, thing))
                    for content, many in after.items():
                        self.assertIn(content, before)
                        self.assertGreaterEqual(many, before[content])

    def test_the_content_of_now_costs_nothing(self):
        for _, house, rules, tree in self.samples():
            for thing, content in enumerate(contents_of(house, tree)):
                rows = forecast(house, rules, tree, thing)
                self.assertIn((content, 0, 0), rows)
                self.assertEqual([row for row in rows if row[1] == 0], [(content, 0, 0)])


class General(unittest.TestCase):

    def test_by_names(self):
        values = {"house": HOUSE, "rules": RULES, "tree": TREE, "thing": 2}
        for names in itertools.permutations(values):
            self.assertEqual(forecast(**{name: values[name] for name in names}), forecast(HOUSE, RULES, TREE, 2))

    def test_nothing_is_remembered(self):
        asked = [
            (HOUSE, RULES, TREE, 2), (HOUSE, (), TREE, 2), (HOUSE, RULES, TREE[1:2] * 3, 2),
            (HOUSE, RULES, TREE, 3), ((HOUSE[0], (1,), HOUSE[2]), RULES, TREE, 2), (HOUSE, EVERY, TREE, 2),
            (STAIRS, STAIRS_RULES, TREE, 2), (ONE_BY_ONE, ONE_BY_ONE_RULES, TREE, 2), (TWO, TWO_RULES, ((2, -1),) * 3, 2),
        ]
        wanted = [oracles.forecast_of(*one) for one in asked]
        for one in asked:
            require_tree(one[0], one[2])
        for order in (range(len(asked)), reversed(range(len(asked))), [0, 1, 0, 2, 0, 4, 0, 5]):
            for k in order:
                self.assertEqual({row[0]: row[1:] for row in forecast(*asked[k])}, wanted[k])

    def test_no_more_contents_than_there_are(self):
        for house, rules in SAMPLES:
            for item in range(len(house[2]) + 1):
                told = [row[0] for row in forecast(house, rules, ((item, -1),), 0)]
                self.assertLessEqual(set(told), set(contents(house)))


if __name__ == "__main__":
    unittest.main()
