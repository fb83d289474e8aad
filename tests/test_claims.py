"""Points 2, 3, 16 and 17, and the interface, movedfolders/claims.py."""

import copy
import itertools
import random
import unittest

from movedfolders.checker import first_fault
from movedfolders.claims import decide, require_claim
from movedfolders.errors import InvalidClaim
from movedfolders.houses import contents
from movedfolders.tables import fewest
from movedfolders.withdrawals import least_price
from tests import judge, oracles
from tests.claiming import FALSE, HOPELESS, LEAK, MORE, TASK, TREE, TRUE, WISH, claims_about
from tests.samples import (
    CUBE, CUBE_RULES, SAMPLES, STAIRS, STAIRS_RULES, TRAP, TRAP_RULES, changes, disturbed, exchanged, part_at,
    places_in, random_samples,
)
from tests.support import HOUSE, NO_INTEGERS, RULES, TWO, put, strange_values

BIG = 10 ** 70
WRONG_CONTENTS = (0, None, [0], (), (0, 0), (3,), (-1,), (True,), (False,), ((0,),), "0", {0: 0})
WRONG_SOMES = (
    [(0,)], (), [], ((1,), (0,)), ((0,), (0,)), ((3,),), ((0, 0),), ([0],), (0,), ((True,),), None, {(0,): 1},
    ((0,), (2,), (1,)), "0", 0,
)
WRONG_RULES = (
    RULES * 7, list(RULES), None, (RULES,), 0, RULES + ((4, ((0,),), ((1,),)),), RULES + ((2, ((1,), (0,)), ((1,),)),),
    RULES + ((2, (), ((1,),)),), RULES + (None,), RULES + ((True, ((0,),), ((1,),)),), ((2, ((0,),), ((3,),)),),
    ([2, ((0,),), ((1,),)],), "", {},
)


class Claims(unittest.TestCase):

    def right(self, claim, house=HOUSE):
        before = copy.deepcopy(claim)
        self.assertIsNone(require_claim(house, claim))
        self.assertEqual(claim, before)

    def wrong(self, claim, house=HOUSE):
        with self.assertRaises(InvalidClaim):
            require_claim(house, claim)
        with self.assertRaises(InvalidClaim):
            decide(house, claim)
        for word, paper in (("shown", ()), ("broken", ()), (None, None)):
            self.assertEqual(first_fault(house, (word, claim, paper)), ("claim",))


class RightClaims(Claims):

    def test_one_of_each_kind(self):
        for claim in TRUE + FALSE:
            self.right(claim)

    def test_no_rules_and_six(self):
        six = RULES * 6
        for claim in TRUE + FALSE:
            if claim[0] not in ("withdraw", "lost"):
                self.right(claim[:1] + ((),) + claim[2:])
                self.right(claim[:1] + (six,) + claim[2:])
        self.right(("withdraw", (), ((LEAK,), (WISH,), ()), 0))
        self.right(("lost", six, ((LEAK,), (WISH,), (99,) * 6)))

    def test_numbers_at_their_bounds(self):
        for n in (0, 1, BIG - 1, BIG):
            self.right(("least", RULES, 3, (0,), (2,), n))
            self.right(("comes", RULES, TREE, 3, (2,), n))
        for n in (0, 1, 593, 594):
            self.right(("withdraw", RULES, TASK, n))

    def test_each_item_content_and_thing(self):
        for item in range(4):
            for a, b in itertools.product(contents(HOUSE), repeat=2):
                self.right(("can", RULES, item, a, b))
                self.right(("safe", RULES, (item, (a,), (b,))))
                self.right(("pairs", RULES, item, ((a, b),)))
        for thing in range(4):
            self.right(("never", RULES, TREE, thing, contents(HOUSE)))
        self.right(("pairs", RULES, 0, ()))
        every = tuple(itertools.product(contents(HOUSE), repeat=2))
        self.right(("pairs", RULES, 0, every))

    def test_a_tree_of_two_hundred(self):
        tree = tuple((2, k - 1) for k in range(200))
        for thing in (0, 199):
            self.right(("comes", RULES, tree, thing, (2,), 3))


class WrongClaims(Claims):

    def test_strange_values(self):
        for value in strange_values():
            self.wrong(value)
            for claim in TRUE:
                self.wrong((value,) + claim[1:])
                self.wrong(claim + (value,))
                for k in range(1, len(claim)):
                    changed = put(claim, k, value)
                    if judge.is_claim(HOUSE, changed):
                        self.right(changed)
                    else:
                        self.wrong(changed)

    def test_other_words(self):
        for claim in TRUE:
            for word in ("", "Can", "cans", "shown", "all", None, 0, True, (claim[0],), [claim[0]], {}, claim[0].upper()):
                self.wrong((word,) + claim[1:])
        words = sorted({claim[0] for claim in TRUE})
        for claim, word in itertools.product(TRUE + FALSE, words):
            other = (word,) + claim[1:]
            if judge.is_claim(HOUSE, other):
                self.assertEqual(other, claim)
            else:
                self.wrong(other)

    def test_parts_too_many_or_too_few_and_lists(self):
        for claim in TRUE + FALSE:
            self.wrong(list(claim))
            self.wrong((claim,))
            self.wrong(claim + claim[-1:])
            self.wrong(claim + ((),))
            for many in range(len(claim)):
                self.wrong(claim[:many])
            for k in range(len(claim)):
                self.wrong(claim[:k] + claim[k + 1:])
                if isinstance(claim[k], tuple):
                    self.wrong(put(claim, k, list(claim[k])))
        self.wrong(())

    def test_rules_that_are_none(self):
        for claim in TRUE + FALSE:
            for rules in WRONG_RULES:
                self.wrong(put(claim, 1, rules))

    def test_items(self):
        for item in NO_INTEGERS + (4,):
            self.wrong(("can", RULES, item, (0,), (2,)))
            self.wrong(("least", RULES, item, (0,), (2,), 1))
            self.wrong(("pairs", RULES, item, ()))
            self.wrong(("safe", RULES, (item, ((0,),), ((2,),))))

    def test_contents(self):
        for content in WRONG_CONTENTS:
            for k in (3, 4):
                self.wrong(put(TRUE[0], k, content))
                self.wrong(put(TRUE[1], k, content))
            self.wrong(put(TRUE[4], 4, content))
            self.wrong(("pairs", RULES, 3, ((content, (0,)),)))
            self.wrong(("pairs", RULES, 3, (((0,), content),)))
        self.wrong(("can", (), 0, (0,), (0,)), TWO)
        self.right(("can", (), 0, (0, 0), (1, 3)), TWO)

    def test_pairs(self):
        pairs = TRUE[3][3]
        wrong = [pairs[::-1], pairs + pairs[-1:], pairs[:1] * 2, pairs[1:] + pairs[:1], list(pairs), (pairs,), None, 0]
        wrong += [((0,), (0,)), (((0,),),), (((0,), (0,), (0,)),), ([(0,), (0,)],), pairs[:2] + pairs[1:], ((),), (None,)]
        for some in wrong:
            self.wrong(("pairs", RULES, 3, some))

    def test_leaks(self):
        for leak in ((), LEAK[:2], LEAK + ((),), list(LEAK), (LEAK,), None, 3, WISH):
            self.wrong(("safe", RULES, leak))
        for some in WRONG_SOMES:
            self.wrong(("safe", RULES, (3, some, ((2,),))))
            self.wrong(("safe", RULES, (3, ((2,),), some)))

    def test_trees(self):
        wrong = (
            (), None, TREE + ((4, -1),), ((3, -1), (0, 0), (0, -1), (0, -1)), ((0, 1), (0, 0), (0, 0), (0, 0)), list(TREE),
            ((0, 0),) * 4, TREE[:3] + ([3, 2],), TREE[:3], ((0, -1),) * 201, TREE[:3] + ((True, 2),), 0, "tree",
            TREE[:3] + ((3, 4),), TREE[:3] + ((3, -2),), TREE[:3] + ((3, 2, 0),), TREE[:3] + ((3, True),),
        )
        for tree in wrong:
            self.wrong(("comes", RULES, tree, 3, (2,), 1))
            self.wrong(("never", RULES, tree, 3, ((2,),)))

    def test_things(self):
        for thing in NO_INTEGERS + (4, 5):
            self.wrong(("comes", RULES, TREE, thing, (2,), 1))
            self.wrong(("never", RULES, TREE, thing, ((2,),)))
        self.wrong(("never", RULES, (), 0, ((2,),)))

    def test_the_contents_of_never(self):
        for some in WRONG_SOMES:
            self.wrong(("never", RULES, TREE, 3, some))

    def test_tasks(self):
        wrong = (
            (), TASK[:2], TASK + ((),), list(TASK), None, ((LEAK,) * 4, (), (5,)), ((), (WISH,) * 4, (5,)),
            ((LEAK, ()), (), (5,)), ((LEAK,), (LEAK,), (5,)), ((LEAK,), (), (5, 5)), ((LEAK,), (), ()),
            ((LEAK,), (), (100,)), ((LEAK,), (), (-1,)), ((LEAK,), (), (True,)), ([LEAK], (), (5,)), ((LEAK,), (), [5]),
        )
        for task in wrong:
            self.wrong(("withdraw", RULES, task, 5))
            self.wrong(("lost", RULES, task))
        # A task is one for its rules.
        self.wrong(("lost", RULES * 2, TASK))
        self.wrong(("lost", (), TASK))

    def test_numbers(self):
        for n in NO_INTEGERS + (BIG + 1, BIG + 2, "1"):
            self.wrong(("least", RULES, 3, (0,), (2,), n))
            self.wrong(("comes", RULES, TREE, 3, (2,), n))
        for n in NO_INTEGERS + (595, 596, BIG):
            self.wrong(("withdraw", RULES, TASK, n))

    def test_for_the_house_that_is_asked(self):
        for claim in TRUE + FALSE:
            self.wrong(claim, TWO)
            self.wrong(claim, ((2,), (0,), HOUSE[2][:1]))

    def test_every_change_of_every_part(self):
        found = []
        for claim in TRUE:
            for at in places_in(claim):
                for change in changes(part_at(claim, at), [0, 2, (1,), (2,), RULES, LEAK, TREE, "can", "lost"]):
                    other = exchanged(claim, at, change)
                    found.append(judge.is_claim(HOUSE, other))
                    if found[-1]:
                        self.right(other)
                    else:
                        with self.assertRaises(InvalidClaim):
                            require_claim(HOUSE, other)
        self.assertGreater(found.count(True), 200)
        self.assertGreater(found.count(False), 2000)

    def test_a_little_wrong(self):
        rng = random.Random(17)
        for house, rules in list(SAMPLES) + random_samples(20):
            for claim in claims_about(rng, house, rules):
                self.right(claim, house)
                for times in (1, 2, 3):
                    other = disturbed(rng, claim, times)
                    if judge.is_claim(house, other):
                        self.right(other, house)
                    else:
                        self.wrong(other, house)


class Decisions(unittest.TestCase):

    def check(self, house, claim, word=None):
        """See that the answer is right and shown; return the paper."""
        before = copy.deepcopy((house, claim))
        certificate = decide(house, claim)
        self.assertEqual((house, claim), before)
        self.assertIs(certificate.__class__, tuple)
        self.assertEqual(len(certificate), 3)
        self.assertEqual(certificate[1], claim)
        self.assertEqual(certificate[0], "shown" if judge.is_true(house, claim) else "broken")
        if word is not None:
            self.assertEqual(certificate[0], word)
        self.assertIsNone(first_fault(house, certificate))
        self.assertIsNone(judge.first_fault(house, certificate))
        return certificate[2]

    def test_one_of_each_kind(self):
        for claim in TRUE:
            self.check(HOUSE, claim, "shown")
        for claim in FALSE:
            self.check(HOUSE, claim, "broken")

    def test_the_example(self):
        self.check(HOUSE, ("can", RULES, 3, (0,), (1,)), "broken")
        self.check(HOUSE, ("never", RULES, TREE, 1, ((2,),)), "shown")

    def test_numbers_one_above_and_one_below(self):
        for house, rules, item, a, b in ((HOUSE, RULES, 3, (0,), (2,)), (TRAP, TRAP_RULES, 5, (0,), (2,))):
            n = fewest(house, rules, item, a, b)[0]
            self.check(house, ("least", rules, item, a, b, n), "shown")
            self.assertEqual(self.check(house, ("least", rules, item, a, b, n + 1), "broken")[0], "less")
            self.assertEqual(self.check(house, ("least", rules, item, a, b, n - 1), "broken")[0], "more")
            self.assertEqual(self.check(house, ("least", rules, item, a, b, BIG), "broken")[0], "less")
            tree = ((item, -1),)
            self.check(house, ("comes", rules, tree, 0, house[1], 0), "shown")
            self.check(house, ("comes", rules, tree, 0, house[1], 1), "broken")
        self.check(HOUSE, ("comes", RULES, ((2, -1),), 0, (2,), 2), "shown")
        self.assertEqual(self.check(HOUSE, ("comes", RULES, ((2, -1),), 0, (2,), 3), "broken")[0], "less")
        self.assertEqual(self.check(HOUSE, ("comes", RULES, ((2, -1),), 0, (2,), 1), "broken")[0], "more")

    def test_none(self):
        for n in (0, 1, BIG):
            self.assertEqual(self.check(HOUSE, ("least", RULES, 3, (0,), (1,), n), "broken")[0], "more")
            self.assertEqual(self.check(HOUSE, ("comes", RULES, TREE, 3, (1,), n), "broken")[0], "more")

    def test_safe_and_never(self):
        for a, b in itertools.product(contents(HOUSE), repeat=2):
            for item in range(4):
                self.check(HOUSE, ("safe", RULES, (item, (a,), (b,))))
                self.check(HOUSE, ("safe", MORE, (item, (a,), contents(HOUSE))), "broken")
        for thing in range(4):
            for content in contents(HOUSE):
                self.check(HOUSE, ("never", RULES, TREE, thing, (content,)))
            self.check(HOUSE, ("never", RULES, TREE, thing, contents(HOUSE)), "broken")

    def test_pairs_with_one_left_out_and_one_put_in(self):
        every = tuple(itertools.product(contents(HOUSE), repeat=2))
        for item in range(4):
            pairs = tuple(sorted(key[1:] for key in oracles.least_costs(HOUSE, RULES)[1] if key[0] == item))
            self.check(HOUSE, ("pairs", RULES, item, pairs), "shown")
            self.check(HOUSE, ("pairs", RULES, item, ()), "broken")
            self.check(HOUSE, ("pairs", RULES, item, every), "broken")
            for pair in every:
                other = tuple(sorted(set(pairs) ^ {pair}))
                self.check(HOUSE, ("pairs", RULES, item, other), "broken")

    def test_withdraw_and_lost(self):
        for task in (TASK, HOPELESS, ((), (), (5,)), ((), (WISH,), (5,)), ((LEAK,), (), (0,)), ((LEAK,), (), (99,))):
            price = least_price(HOUSE, RULES, task)
            for n in (0, 1, 4, 5, 6, 99, 594):
                self.check(HOUSE, ("withdraw", RULES, task, n), "shown" if n == price else "broken")
            self.check(HOUSE, ("lost", RULES, task), "shown" if price is None else "broken")

    def test_no_rules(self):
        for claim in TRUE + FALSE:
            if claim[0] not in ("withdraw", "lost"):
                self.check(HOUSE, claim[:1] + ((),) + claim[2:])
        for leaks, wishes in itertools.product(((), (LEAK,)), ((), (WISH,))):
            task = (leaks, wishes, ())
            self.check(HOUSE, ("lost", (), task), "shown" if wishes else "broken")
            for n in (0, 1):
                self.check(HOUSE, ("withdraw", (), task, n), "shown" if n == 0 and not wishes else "broken")

    def test_six_rules_with_equal_ones(self):
        rules = RULES * 2 + MORE[1:] + MORE[2:] * 2
        for prices in ((1, 2, 3, 4, 5, 6), (0, 0, 1, 9, 0, 9)):
            for wishes in ((), (WISH,), ((3, (1,), (0,)),)):
                task = ((LEAK, (3, ((1,),), ((0,),)))[:2 - len(wishes)], wishes, prices)
                price = least_price(HOUSE, rules, task)
                self.check(HOUSE, ("lost", rules, task), "shown" if price is None else "broken")
                for n in (0, 3, 5, 18) + (() if price is None else (price, price + 1)):
                    self.check(HOUSE, ("withdraw", rules, task, n), "shown" if n == price else "broken")

    def test_many_reasons(self):
        # Each of three steps is let by two rules, so that something leaks by eight sets of three rules.
        kinds = ((("set", 0, 1),), (("set", 0, 2),), (("set", 0, 3),), (("set", 0, 4),))
        steps = (((0,),), ((1,),), ((2,),), ((3,),))
        house = ((5,), (0,), kinds)
        rules = tuple((4, steps[k % 3], steps[k % 3 + 1]) for k in range(6))
        for wishes in ((), ((4, (0,), (3,)),), ((4, (0,), (2,)),)):
            task = (((4, ((0,),), ((3,),)),), wishes, (1, 2, 4, 8, 16, 32))
            for n in (0, 3, 9, 40, 63):
                self.check(house, ("withdraw", rules, task, n))
            self.check(house, ("lost", rules, task))
        paper = self.check(house, ("withdraw", rules, (task[0], (), task[2]), 9), "shown")
        self.assertEqual(len(paper[4]), 8)

    def test_deep_paths(self):
        tree = tuple((2, k - 1) for k in range(199)) + ((3, 198),)
        for thing, content in itertools.product((0, 100, 199), contents(HOUSE)):
            for n in (0, 1, 2):
                self.check(HOUSE, ("comes", RULES, tree, thing, content, n))
            self.check(HOUSE, ("never", RULES, tree, thing, (content,)))

    def test_the_trap_and_the_stairs(self):
        for house, rules in ((TRAP, TRAP_RULES), (STAIRS, STAIRS_RULES)):
            for item in (0, len(house[2])):
                for a, b in itertools.product(contents(house), repeat=2):
                    self.check(house, ("can", rules, item, a, b))
        leaks = ((5, ((0,),), ((2,),)),)
        self.check(TRAP, ("withdraw", TRAP_RULES, (leaks, (), (7, 5, 6)), 5), "shown")
        self.check(TRAP, ("lost", TRAP_RULES, (leaks, ((5, (0,), (2,)),), (7, 5, 6))), "shown")

    def test_a_dense_house(self):
        every = contents(CUBE)
        for claim in (
            ("can", CUBE_RULES, 5, every[0], every[7]), ("least", CUBE_RULES, 5, every[1], every[6], 1),
            ("safe", CUBE_RULES[:2], (3, every[7:], every[:1])),
            ("pairs", CUBE_RULES, 3, tuple(itertools.product(every, repeat=2))),
            ("never", CUBE_RULES, ((0, -1), (5, 0)), 1, every[:4]),
        ):
            self.check(CUBE, claim)

    def test_all_kinds_anyhow(self):
        rng = random.Random(18)
        words = []
        for house, rules in list(SAMPLES) * 2 + random_samples(60):
            for claim in claims_about(rng, house, rules):
                self.check(house, claim)
                words.append((claim[0], decide(house, claim)[0]))
        for word in judge.PARTS:
            self.assertGreater(words.count((word, "shown")), 8, word)
            self.assertGreater(words.count((word, "broken")), 8, word)

    def test_by_names(self):
        for claim in TRUE:
            self.assertEqual(decide(claim=claim, house=HOUSE), decide(HOUSE, claim))
            self.assertIsNone(require_claim(claim=claim, house=HOUSE))
        with self.assertRaises(InvalidClaim):
            require_claim(claim=None, house=HOUSE)

    def test_nothing_is_remembered(self):
        for _ in range(2):
            for claim in TRUE:
                self.check(HOUSE, claim, "shown")
                if claim[0] in ("can", "least", "comes", "pairs"):
                    self.check(HOUSE, put(claim, 1, ()), "broken")
                self.check((HOUSE[0], (2,), HOUSE[2]), claim)
                self.check((HOUSE[0], HOUSE[1], HOUSE[2][::-1]), claim)


if __name__ == "__main__":
    unittest.main()
