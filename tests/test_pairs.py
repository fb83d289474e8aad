"""Points 2 and 8, and the interface, movedfolders/pairs.py."""

import random
import unittest

from movedfolders.kinds import after, come_to
from movedfolders.pairs import place_pairs, thing_pairs
from movedfolders.trees import let_moves
from tests import oracles
from tests.samples import (
    CUBE, CUBE_RULES, ONE_BY_ONE, ONE_BY_ONE_RULES, SAMPLES, STAIRS, STAIRS_RULES, TRAP, TRAP_RULES, random_samples,
    random_tree,
)
from tests.support import HOUSE, RULES


def pairs_of(*texts):
    """Return the pairs of contents of one cell, each given as two digits."""
    return tuple(((int(text[0]),), (int(text[1]),)) for text in texts)


class PlacePairs(unittest.TestCase):

    def test_no_rules(self):
        self.assertEqual(place_pairs(HOUSE, ()), pairs_of("00", "11", "22"))
        for house, _ in list(SAMPLES) + random_samples(40):
            same = tuple((content, content) for content in come_to(house))
            self.assertEqual(place_pairs(house, ()), same)
            for item in range(len(house[2]) + 1):
                self.assertEqual(thing_pairs(house, (), item), same)

    def test_a_house_in_which_nothing_else_comes_about(self):
        self.assertEqual(place_pairs(((3,), (1,), ((),)), ((0, ((1,),), ((1,), (2,))),)), pairs_of("11"))

    def test_written_out(self):
        self.assertEqual(place_pairs(HOUSE, RULES), pairs_of("00", "02", "11", "12", "22"))

    def test_a_rule_into_the_root(self):
        # A leaf comes back to the root, and the root alone has the content 0.
        house = ((2,), (0,), ((("set", 0, 1),),))
        self.assertEqual(place_pairs(house, ((1, ((1,),), ((0,),)),)), pairs_of("00", "11"))
        self.assertEqual(thing_pairs(house, ((1, ((1,),), ((0,),)),), 1), pairs_of("00", "10", "11"))
        self.assertEqual(thing_pairs(house, ((1, ((1,),), ((0,),)),), 0), pairs_of("00", "11"))

    def test_pairs_that_do_not_join(self):
        pairs = place_pairs(TRAP, TRAP_RULES)
        self.assertIn(((0,), (1,)), pairs)
        self.assertIn(((1,), (2,)), pairs)
        self.assertNotIn(((0,), (2,)), pairs)
        self.assertIn(((0,), (2,)), thing_pairs(TRAP, TRAP_RULES, 5))
        for item in range(5):
            self.assertNotIn(((0,), (2,)), thing_pairs(TRAP, TRAP_RULES, item))

    def test_the_trap_written_out(self):
        self.assertEqual(place_pairs(TRAP, TRAP_RULES), pairs_of("00", "01", "11", "12", "22", "33", "44", "55"))
        self.assertEqual(thing_pairs(TRAP, TRAP_RULES, 2), place_pairs(TRAP, TRAP_RULES))


class ThingPairs(unittest.TestCase):

    def test_written_out(self):
        places = place_pairs(HOUSE, RULES)
        for item in (0, 1, 3):
            self.assertEqual(thing_pairs(HOUSE, RULES, item), places)
        self.assertEqual(thing_pairs(HOUSE, RULES, 2), pairs_of("00", "01", "02", "11", "12", "22"))

    def test_only_behind_several_rules_one_after_the_other(self):
        found = thing_pairs(ONE_BY_ONE, ONE_BY_ONE_RULES, 5)
        values = (0, 1, 2, 4, 6, 7)
        wanted = [((a,), (b,)) for a in values for b in values if a <= b]
        self.assertEqual(found, tuple(wanted))
        for left_out in range(5):
            rules = ONE_BY_ONE_RULES[:left_out] + ONE_BY_ONE_RULES[left_out + 1:]
            cut = values[left_out]
            wanted = [((a,), (b,)) for a in values for b in values if a == b or a <= b <= cut or cut < a <= b]
            self.assertEqual(thing_pairs(ONE_BY_ONE, rules, 5), tuple(wanted))

    def test_from_what_the_new_place_came_to(self):
        # The leaf goes into a folder with 1, which then becomes 2 by a move of its own.
        rules = RULES + ((3, ((0,),), ((1,),)), (3, ((2,),), ((0,),)))
        self.assertEqual(thing_pairs(HOUSE, rules, 3), pairs_of("00", "01", "02", "10", "11", "12", "20", "21", "22"))

    def test_rules_that_can_never_be_used(self):
        never = ((3, ((5,),), ((0,),)), (3, ((0,),), ((5,),)), (0, ((5,), (7,)), ((5,), (7,))))
        house = ((8,), (0,), HOUSE[2])
        self.assertEqual(place_pairs(house, RULES + never), place_pairs(HOUSE, RULES))
        for item in range(4):
            self.assertEqual(thing_pairs(house, never + RULES, item), thing_pairs(HOUSE, RULES, item))
            self.assertEqual(thing_pairs(house, never, item), pairs_of("00", "11", "22"))

    def test_all_pairs(self):
        known = come_to(CUBE)
        self.assertEqual(len(known), 8)
        everything = tuple((a, b) for a in known for b in known)
        self.assertEqual(thing_pairs(CUBE, CUBE_RULES, 5), everything)
        self.assertEqual(len(place_pairs(CUBE, CUBE_RULES)), 52)


class AllPairs(unittest.TestCase):

    def test_against_the_words_of_the_document(self):
        several = 0
        for house, rules in list(SAMPLES) + [(CUBE, CUBE_RULES)] + random_samples(150):
            places, things = oracles.least_costs(house, rules)
            found = place_pairs(house, rules)
            self.assertIs(found.__class__, tuple)
            self.assertEqual(found, tuple(sorted(places)))
            several += len(found) > len(come_to(house))
            for item in range(len(house[2]) + 1):
                pairs = thing_pairs(house, rules, item)
                self.assertIs(pairs.__class__, tuple)
                self.assertEqual(pairs, tuple(sorted(key[1:] for key in things if key[0] == item)))
                self.assertLessEqual(set(found), set(pairs))
        self.assertGreater(several, 20)

    def test_kinds_take_thing_pairs_to_place_pairs(self):
        for house, rules in list(SAMPLES) + random_samples(40):
            places = place_pairs(house, rules)
            for kind in range(len(house[2])):
                for a, b in thing_pairs(house, rules, kind):
                    self.assertIn((after(house, a, (kind,)), after(house, b, (kind,))), places)

    def test_the_order_of_rules_and_equal_rules_change_nothing(self):
        for house, rules in list(SAMPLES) + random_samples(30):
            for other in (rules[::-1], rules + rules, rules[1:] + rules[:1]):
                self.assertEqual(place_pairs(house, other), place_pairs(house, rules))
                for item in range(len(house[2]) + 1):
                    self.assertEqual(thing_pairs(house, other, item), thing_pairs(house, rules, item))

    def test_with_fewer_rules_there_is_no_pair_more(self):
        for house, rules in list(SAMPLES) + random_samples(40):
            for k in range(len(rules)):
                fewer = rules[:k] + rules[k + 1:]
                self.assertLessEqual(set(place_pairs(house, fewer)), set(place_pairs(house, rules)))
                for item in range(len(house[2]) + 1):
                    more = thing_pairs(house, rules, item)
                    self.assertLessEqual(set(thing_pairs(house, fewer, item)), set(more))

    def test_what_is_played_is_among_the_pairs(self):
        rng = random.Random(29)
        seen = 0
        for house, rules in [(HOUSE, RULES), (STAIRS, STAIRS_RULES), (TRAP, TRAP_RULES)] * 20 + random_samples(60):
            pairs = [set(thing_pairs(house, rules, item)) for item in range(len(house[2]) + 1)]
            places = set(place_pairs(house, rules))
            first = tree = random_tree(rng, house, 12)
            for _ in range(12):
                right = let_moves(house, rules, tree)
                if not right:
                    break
                tree = oracles.moved(tree, *rng.choice(right))
                seen += 1
                for k, (item, _) in enumerate(first):
                    pair = (oracles.content_of(house, first, k), oracles.content_of(house, tree, k))
                    self.assertIn(pair, pairs[item])
                    if item < len(house[2]):
                        both = (oracles.content_inside(house, first, k), oracles.content_inside(house, tree, k))
                        self.assertIn(both, places)
        self.assertGreater(seen, 300)


if __name__ == "__main__":
    unittest.main()
