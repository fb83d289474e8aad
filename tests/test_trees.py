"""Points 2 and 7, and the interface, movedfolders/trees.py."""

import copy
import itertools
import random
import unittest

from movedfolders.errors import InvalidTree
from movedfolders.kinds import after
from movedfolders.trees import contents_of, let_moves, played, require_tree
from tests import oracles
from tests.samples import (
    CUBE, CUBE_RULES, SAMPLES, STAIRS, STAIRS_RULES, TWO_RULES, random_samples, random_tree, renumbered,
)
from tests.support import HOUSE, NO_INTEGERS, RULES, TWO, put, strange_values

TREE = ((0, -1), (1, -1), (2, 0), (3, 2))
LEAF = (3, -1)
FOLDER = (1, -1)
EVERY = tuple((item, ((0,), (1,), (2,)), ((0,), (1,), (2,))) for item in range(4))


def fault(value, house=HOUSE):
    """Return the index that require_tree tells to be wrong."""
    try:
        require_tree(house, value)
    except InvalidTree as e:
        return e.index
    return "right"


def path(many, last=1):
    """Return a path of so many things, each one in the one before it."""
    return tuple((last if k == many - 1 else 1, k - 1) for k in range(many))


class RightTrees(unittest.TestCase):

    def check(self, tree, house=HOUSE):
        before = copy.deepcopy(tree)
        self.assertIs(require_tree(house, tree), tree)
        self.assertEqual(tree, before)

    def test_the_empty_tree(self):
        self.check(())
        self.check((), TWO)

    def test_ordinary_trees(self):
        self.check(TREE)
        self.check((FOLDER,))
        self.check((LEAF, LEAF))
        self.check(((0, -1), (1, -1), (2, 1), (0, 1)), TWO)

    def test_each_item_in_the_root_and_in_each_kind(self):
        for item in range(4):
            self.check(((item, -1),))
            for kind in range(3):
                self.check(((kind, -1), (item, 0)))
        self.assertEqual(fault(((4, -1),)), 0)
        self.assertEqual(fault(((1, -1), (4, 0))), 1)

    def test_things_ahead_of_the_folders_in_which_they_lie(self):
        self.check(((3, 1), FOLDER))
        self.check(((3, 2), (1, 3), (0, 1), FOLDER))
        self.check(((3, 1), (1, 2), (1, 3), (1, 4), FOLDER))
        for order in itertools.permutations(range(4)):
            self.check(renumbered(TREE, order))

    def test_two_hundred_things(self):
        self.check((LEAF,) * 200)
        self.check((FOLDER,) + ((3, 0),) * 199)
        self.check(((3, 199),) * 199 + (FOLDER,))

    def test_a_path_of_two_hundred(self):
        self.check(path(200))
        self.check(path(200, last=3))
        self.check(renumbered(path(200), list(range(199, -1, -1))))

    def test_any_tree(self):
        rng = random.Random(7)
        for house, _ in random_samples(30):
            for many in (1, 2, 5, 30, 200):
                self.check(random_tree(rng, house, many), house)


class WrongTrees(unittest.TestCase):

    def test_no_tuple_of_at_most_two_hundred(self):
        wrong = [
            (LEAF,) * 201, path(201), (None,) * 201, (LEAF,) * 400000, [], [LEAF], list(TREE), {}, {0: LEAF}, None, 0,
            -1, True, False, "", "tree",
        ]
        for at, value in enumerate(wrong):
            with self.subTest(at):
                self.assertIsNone(fault(value))
        self.assertEqual(fault((None,) * 200), 0)

    def test_strange_values(self):
        for at, value in enumerate(strange_values()):
            with self.subTest(at):
                short = isinstance(value, tuple) and len(value) <= 200
                self.assertEqual(fault(value), 0 if short else None)

    def wrong_pairs(self):
        found = [(item, -1) for item in NO_INTEGERS + (4, 5, (1,), "1")]
        found += [(1, above) for above in NO_INTEGERS[:-1] + (-2, -3, 3, 4, 200, (0,), "-1")]
        found += [(), (1,), (1, -1, -1), (1, -1, 0), [1, -1], [], {}, {1: -1}, None, 0, True, "1-", "ab", (FOLDER,)]
        return found + [(FOLDER, FOLDER), ([1], -1), (1, [-1])] + strange_values()

    def test_each_pair_wrong(self):
        for at, pair in enumerate(self.wrong_pairs()):
            with self.subTest(at):
                for k in range(3):
                    self.assertEqual(fault(put((FOLDER, FOLDER, LEAF), k, pair)), k)
                self.assertEqual(fault((FOLDER, pair, pair)), 1)

    def test_bounds_of_above_are_those_of_the_tuple(self):
        self.assertEqual(fault(((1, 1), FOLDER)), "right")
        self.assertEqual(fault(((1, 2), FOLDER)), 0)
        self.assertEqual(fault((FOLDER, (1, 2))), 1)
        self.assertEqual(fault((FOLDER, (1, -2))), 1)
        self.assertEqual(fault((FOLDER,) * 199 + ((1, 198),)), "right")
        self.assertEqual(fault((FOLDER,) * 199 + ((1, 200),)), 199)

    def test_items_are_those_of_the_house(self):
        self.assertEqual(fault(((0, -1), (1, 0), (2, 1)), TWO), "right")
        self.assertEqual(fault(((0, -1), (1, 0), (3, 1)), TWO), 2)
        self.assertEqual(fault(((0, -1), (1, 0), (2, 1), (2, 2)), TWO), 3)

    def test_a_wrong_pair_is_told_ahead_of_leaves_and_rounds(self):
        self.assertEqual(fault((LEAF, (1, 0), (4, -1))), 2)
        self.assertEqual(fault(((1, 0), (1, True))), 1)
        self.assertEqual(fault(((1, 1), (1, 0), LEAF, (0, 2), (1, -2), (1, 9))), 4)

    def test_things_in_leaves(self):
        self.assertEqual(fault((LEAF, (1, 0))), 1)
        self.assertEqual(fault((LEAF, (3, 0), (1, 0))), 1)
        self.assertEqual(fault(((1, 3), (3, 2), FOLDER, LEAF, (0, 1))), 0)
        self.assertEqual(fault((FOLDER, (3, 0), (1, 0), (3, 2), (0, 3), (0, 1))), 4)
        self.assertEqual(fault((LEAF,) + ((1, -1),) * 198 + ((2, 0),)), 199)
        # A leaf in a folder is a leaf, and so is one that lies in another leaf or in itself.
        self.assertEqual(fault((FOLDER, (3, 0), (3, 1))), 2)
        self.assertEqual(fault(((3, 0),)), 0)
        self.assertEqual(fault((FOLDER, (3, 2), (3, 1))), 1)

    def test_leaves_are_told_ahead_of_rounds(self):
        self.assertEqual(fault(((1, 0), LEAF, (1, 1))), 2)
        self.assertEqual(fault(((1, 1), (1, 0), (1, 1), LEAF, (0, 3), (0, 3))), 4)

    def test_rounds(self):
        self.assertEqual(fault(((1, 0),)), 0)
        self.assertEqual(fault((FOLDER, (1, 1))), 1)
        self.assertEqual(fault(((1, 1), (1, 0))), 0)
        self.assertEqual(fault((FOLDER, (1, 2), (1, 1))), 1)
        self.assertEqual(fault((FOLDER, LEAF, (1, 4), (1, 2), (1, 3))), 2)
        self.assertEqual(fault((FOLDER,) + tuple((1, k % 199 + 1) for k in range(1, 200))), 1)
        self.assertEqual(fault(tuple((1, (k + 1) % 200) for k in range(200))), 0)

    def test_what_hangs_below_a_round(self):
        self.assertEqual(fault(((3, 1), (1, 1))), 0)
        self.assertEqual(fault((FOLDER, (3, 2), (1, 3), (1, 3))), 1)
        self.assertEqual(fault((FOLDER, (3, 0), (1, 4), (1, 2), (1, 3), (1, 0), (0, 3))), 2)
        self.assertEqual(fault(((3, 1), (1, 2), (1, 3), (1, 2), FOLDER)), 0)
        self.assertEqual(fault((FOLDER, (1, 0)) + tuple((1, k + 1) for k in range(2, 199)) + ((1, 199),)), 2)

    def test_against_walks_to_the_root(self):
        rng = random.Random(11)
        for _ in range(3000):
            many = rng.randrange(1, 7)
            tree = tuple((rng.randrange(3), rng.randrange(-1, many)) for _ in range(many))
            wanted = "right"
            for k in range(many - 1, -1, -1):
                place = k
                for _ in range(many):
                    place = place if place == -1 else tree[place][1]
                if place != -1:
                    wanted = k
            self.assertEqual(fault(tree), wanted, tree)


class Contents(unittest.TestCase):

    def test_the_empty_tree(self):
        self.assertEqual(contents_of(HOUSE, ()), ())

    def test_in_the_root(self):
        self.assertEqual(contents_of(HOUSE, (LEAF, FOLDER)), ((0,), (0,)))
        self.assertEqual(contents_of(TWO, ((0, -1), (2, -1))), ((1, 3), (1, 3)))

    def test_paths_of_several_kinds(self):
        self.assertEqual(contents_of(HOUSE, ((1, -1), (2, 0), (3, 1))), ((0,), (1,), (2,)))
        self.assertEqual(contents_of(HOUSE, ((2, -1), (1, 0), (3, 1))), ((0,), (0,), (1,)))
        self.assertEqual(
            contents_of(HOUSE, ((1, -1), (2, 0), (0, 1), (3, 2), (1, 1), (3, 4))),
            ((0,), (1,), (2,), (0,), (2,), (2,)),
        )

    def test_begin_is_that_of_the_house(self):
        for begin in ((0,), (1,), (2,)):
            house = (HOUSE[0], begin, HOUSE[2])
            wanted = (begin, begin, after(house, begin, (2,)))
            self.assertEqual(contents_of(house, ((2, -1), (3, -1), (3, 0))), wanted)

    def test_deep_paths(self):
        for many in (50, 199, 200):
            kinds = [(0, 1, 2, 2, 1)[k % 5] for k in range(many)]
            tree = tuple((kind, k - 1) for k, kind in enumerate(kinds))
            wanted = tuple(after(HOUSE, (0,), tuple(kinds[:k])) for k in range(many))
            self.assertEqual(contents_of(HOUSE, tree), wanted)
            turned = renumbered(tree, list(range(many - 1, -1, -1)))
            self.assertEqual(contents_of(HOUSE, turned), wanted[::-1])

    def test_a_path_somewhat_beyond_the_limit(self):
        self.assertEqual(contents_of(HOUSE, path(1500)), ((0,),) + ((1,),) * 1499)

    def test_any_tree_numbered_in_two_ways(self):
        rng = random.Random(13)
        for house, _ in list(SAMPLES) + random_samples(40):
            tree = random_tree(rng, house, rng.choice((1, 3, 8, 20)))
            found = contents_of(house, tree)
            self.assertIs(found.__class__, tuple)
            self.assertEqual(found, tuple(oracles.content_of(house, tree, k) for k in range(len(tree))))
            order = list(range(len(tree)))
            rng.shuffle(order)
            again = contents_of(house, renumbered(tree, order))
            self.assertEqual([again[order[k]] for k in range(len(tree))], list(found))

    def test_a_thing_more_changes_no_other_one(self):
        rng = random.Random(17)
        for house, _ in random_samples(20):
            tree = random_tree(rng, house, 8)
            for item in range(len(house[2]) + 1):
                for above in [-1] + [k for k in range(8) if tree[k][0] < len(house[2])]:
                    more = contents_of(house, tree + ((item, above),))
                    self.assertEqual(more[:-1], contents_of(house, tree))
                    self.assertEqual(more[-1], oracles.content_inside(house, tree, above))


class LetMoves(unittest.TestCase):

    def test_no_things_and_no_rules(self):
        self.assertEqual(let_moves(HOUSE, EVERY, ()), ())
        self.assertEqual(let_moves(HOUSE, (), TREE), ())

    def test_all_that_is_let_where_the_rules_let_everything(self):
        self.assertEqual(let_moves(HOUSE, EVERY, TREE), (
            (0, -1), (0, 1), (1, -1), (1, 0), (1, 2), (2, -1), (2, 0), (2, 1), (3, -1), (3, 0), (3, 1), (3, 2),
        ))

    def test_never_into_a_leaf(self):
        self.assertEqual(let_moves(HOUSE, EVERY, (LEAF, LEAF, (3, -1))), ((0, -1), (1, -1), (2, -1)))

    def test_never_into_itself_or_below(self):
        self.assertEqual(let_moves(HOUSE, EVERY, path(3)), ((0, -1), (1, -1), (1, 0), (2, -1), (2, 0), (2, 1)))
        back = renumbered(path(3), (2, 1, 0))
        self.assertEqual(let_moves(HOUSE, EVERY, back), ((0, -1), (0, 1), (0, 2), (1, -1), (1, 2), (2, -1)))
        many = let_moves(HOUSE, EVERY, path(200))
        self.assertEqual(many, tuple((k, target) for k in range(200) for target in range(-1, k)))

    def test_into_the_place_in_which_it_lies(self):
        stay = ((3, ((1,),), ((1,),)),)
        self.assertEqual(let_moves(HOUSE, stay, (FOLDER, (3, 0))), ((1, 0),))
        self.assertEqual(let_moves(HOUSE, ((3, ((0,),), ((0,),)),), (LEAF, FOLDER)), ((0, -1),))

    def test_from_and_to(self):
        tree = ((0, -1), (1, -1), (2, 1), (3, 2), (3, 1), (3, -1), (3, 0))
        self.assertEqual(contents_of(HOUSE, tree), ((0,), (0,), (1,), (2,), (1,), (0,), (0,)))
        wanted = {(0,): (5, 6), (1,): (4,), (2,): (3,)}
        targets = {(0,): (-1, 0), (1,): (1,), (2,): (2,)}
        for start, end in itertools.product(((0,), (1,), (2,)), repeat=2):
            found = let_moves(HOUSE, ((3, (start,), (end,)),), tree)
            self.assertEqual(found, tuple(itertools.product(wanted[start], targets[end])))

    def test_other_items_are_not_let(self):
        for item in range(4):
            rules = ((item, ((0,), (1,), (2,)), ((0,),)),)
            movers = {k for k, _ in let_moves(HOUSE, rules, TREE)}
            self.assertEqual(movers, {k for k in range(4) if TREE[k][0] == item})

    def test_several_rules_of_one_item(self):
        one, two = (3, ((0,),), ((1,),)), (3, ((1,),), ((0,),))
        tree = (FOLDER, LEAF, (3, 0))
        self.assertEqual(let_moves(HOUSE, (one,), tree), ((1, 0),))
        self.assertEqual(let_moves(HOUSE, (two,), tree), ((2, -1),))
        self.assertEqual(let_moves(HOUSE, (one, two), tree), ((1, 0), (2, -1)))
        self.assertEqual(let_moves(HOUSE, (two, one), tree), ((1, 0), (2, -1)))
        self.assertEqual(let_moves(HOUSE, (one, two, one, one), tree), ((1, 0), (2, -1)))

    def test_against_the_words_of_the_document(self):
        rng = random.Random(19)
        for house, rules in list(SAMPLES) + [(CUBE, CUBE_RULES)] + random_samples(80):
            tree = random_tree(rng, house, rng.choice((1, 4, 9)))
            found = let_moves(house, rules, tree)
            self.assertIs(found.__class__, tuple)
            moves = [(thing, target) for thing in range(len(tree)) for target in range(-1, len(tree))]
            wanted = tuple(move for move in moves if oracles.is_let(house, rules, tree, *move))
            self.assertEqual(found, wanted)
            self.assertEqual(let_moves(house, rules[::-1] + rules[:1], tree), wanted)


class Played(unittest.TestCase):

    def test_no_moves(self):
        for tree in ((), TREE, path(200)):
            self.assertEqual(played(HOUSE, RULES, tree, ()), tree)
            self.assertEqual(played(HOUSE, (), tree, ()), tree)

    def test_what_lies_below_goes_with_its_folder(self):
        tree = ((1, -1), (2, -1), (3, 1), (1, 1), (3, 3))
        behind = played(HOUSE, RULES, tree, ((1, 0),))
        self.assertEqual(behind, ((1, -1), (2, 0), (3, 1), (1, 1), (3, 3)))
        self.assertEqual(contents_of(HOUSE, tree), ((0,), (0,), (0,), (0,), (1,)))
        self.assertEqual(contents_of(HOUSE, behind), ((0,), (1,), (2,), (2,), (2,)))

    def test_into_the_root_and_into_the_same_place(self):
        self.assertEqual(played(HOUSE, EVERY, (FOLDER, (3, 0)), ((1, -1),)), (FOLDER, LEAF))
        self.assertEqual(played(HOUSE, EVERY, (FOLDER, (3, 0)), ((1, 0), (1, 0))), (FOLDER, (3, 0)))
        self.assertEqual(played(HOUSE, EVERY, (LEAF,), ((0, -1),)), (LEAF,))

    def test_moves_that_are_none(self):
        for tree in (TREE, (FOLDER,), ()):
            for thing in (-1, -2, len(tree), len(tree) + 1, 10 ** 79, -(10 ** 79)):
                self.assertIsNone(played(HOUSE, EVERY, tree, ((thing, -1),)))
                self.assertIsNone(played(HOUSE, EVERY, tree, ((thing, 0),)))
                self.assertIsNone(played(HOUSE, EVERY, tree, ((thing, thing),)))
        for target in (-2, -3, 4, 5, 10 ** 79, -(10 ** 79)):
            self.assertIsNone(played(HOUSE, EVERY, TREE, ((1, target),)))
        self.assertIsNone(played(HOUSE, EVERY, TREE, ((1, 3),)))
        self.assertIsNone(played(HOUSE, EVERY, TREE, ((3, 3),)))

    def test_a_folder_into_itself_or_below_it(self):
        for thing in range(5):
            for target in range(-1, 5):
                behind = played(HOUSE, EVERY, path(5), ((thing, target),))
                if target >= thing:
                    self.assertIsNone(behind)
                else:
                    self.assertEqual(behind, put(path(5), thing, (1, target)))

    def test_a_move_that_no_rule_lets(self):
        self.assertEqual(played(HOUSE, RULES, TREE, ((2, 1),)), ((0, -1), (1, -1), (2, 1), (3, 2)))
        for move in ((2, -1), (2, 0), (1, 0), (3, 1), (0, 1), (3, -1)):
            self.assertIsNone(played(HOUSE, RULES, TREE, (move,)))
        self.assertIsNone(played(HOUSE, (), TREE, ((2, 1),)))

    def test_a_wrong_move_behind_others_and_ahead_of_others(self):
        self.assertIsNone(played(HOUSE, RULES, TREE, ((2, 1), (2, 1))))
        self.assertIsNone(played(HOUSE, RULES, TREE, ((2, 1), (3, -1))))
        self.assertIsNone(played(HOUSE, RULES, TREE, ((3, -1), (2, 1))))
        self.assertIsNone(played(HOUSE, EVERY, TREE, ((3, -1), (9, -1), (3, -1))))
        self.assertIsNone(played(HOUSE, EVERY, TREE, ((3, -1),) * 199 + ((3, 3),)))

    def test_the_contents_of_the_moment_decide(self):
        # The leaf may leave 1 alone, which it comes to by the move of the folder in which it lies.
        rules = ((0, ((0,),), ((1,),)), (2, ((1,),), ((0,),)))
        house = ((2,), (0,), ((), (("set", 0, 1),)))
        tree = ((1, -1), (0, -1), (2, 1))
        self.assertIsNone(played(house, rules, tree, ((2, -1),)))
        self.assertEqual(played(house, rules, tree, ((1, 0), (2, -1))), ((1, -1), (0, 0), (2, -1)))
        # And the folder is a place with 0 ahead of its own move alone.
        into = ((2, ((0,),), ((0,),)), (0, ((0,),), ((1,),)))
        tree = ((1, -1), (0, -1), (2, -1))
        self.assertEqual(played(house, into, tree, ((2, 1), (1, 0))), ((1, -1), (0, 0), (2, 1)))
        self.assertIsNone(played(house, into, tree, ((1, 0), (2, 1))))

    def test_targets_within_what_was_moved_before(self):
        tree = (FOLDER, FOLDER, FOLDER)
        self.assertEqual(played(HOUSE, EVERY, tree, ((0, 1), (1, 2), (2, -1))), ((1, 1), (1, 2), (1, -1)))
        self.assertIsNone(played(HOUSE, EVERY, tree, ((0, 1), (1, 2), (2, 0))))
        self.assertEqual(played(HOUSE, EVERY, tree, ((0, 1), (0, -1), (1, 0))), ((1, -1), (1, 0), (1, -1)))

    def test_two_hundred_moves(self):
        tree = (FOLDER, (3, -1), (2, 0))
        self.assertEqual(played(HOUSE, EVERY, tree, ((1, 0), (1, -1)) * 100), tree)
        self.assertEqual(played(HOUSE, EVERY, tree, ((1, 0), (1, -1)) * 99 + ((1, -1), (1, 2))), put(tree, 1, (3, 2)))
        deep = path(200)
        self.assertEqual(played(HOUSE, EVERY, deep, ((199, 0), (199, 198)) * 100), deep)

    def test_against_the_words_of_the_document_in_one_part_and_in_two(self):
        rng = random.Random(23)
        lengths = []
        free = [(STAIRS, STAIRS_RULES), (CUBE, CUBE_RULES), (TWO, TWO_RULES), (HOUSE, EVERY), (HOUSE, RULES)]
        for house, rules in free * 4 + random_samples(120):
            first = tree = random_tree(rng, house, rng.choice((2, 5, 9)))
            moves = []
            for _ in range(12):
                move = (rng.randrange(-1, len(tree) + 1), rng.randrange(-2, len(tree) + 1))
                right = let_moves(house, rules, tree)
                if right and rng.random() < 0.9:
                    move = rng.choice(right)
                moves.append(move)
                tree = oracles.moved(tree, *move) if oracles.is_let(house, rules, tree, *move) else None
                self.assertEqual(played(house, rules, first, tuple(moves)), tree)
                if tree is None:
                    break
                cut = rng.randrange(len(moves) + 1)
                half = played(house, rules, first, tuple(moves[:cut]))
                self.assertEqual(played(house, rules, half, tuple(moves[cut:])), tree)
            lengths.append(len(moves))
        self.assertGreater(lengths.count(12), 20)


if __name__ == "__main__":
    unittest.main()
