"""Points 2, 3, 17 and 18, and the interface, movedfolders/checker.py: the faults of what has its form."""

import copy
import random
import unittest

from movedfolders.checker import first_fault
from movedfolders.claims import decide
from movedfolders.courses import course_for, used_rules
from movedfolders.tables import least_table
from tests import judge
from tests.claiming import FALSE, HOPELESS, LEAK, MORE, TASK, TREE, TRUE, WISH, certificates, claims_about
from tests.samples import SAMPLES, disturbed, nudged, random_samples
from tests.support import HOUSE, RULES, put, strange_values

ROOT = ("root",)
LEDGER = (ROOT, (1, (0,)), (2, (0, 0, 1)))
COURSE = (LEDGER, (2,))
ROOT_COURSE = ((ROOT,), (0,))
TABLE = least_table(HOUSE, RULES)
BARE = least_table(HOUSE, ())
NAUGHT = tuple(tuple(row[:-2] + (0, 0) for row in part) for part in TABLE)

CAN = ("can", RULES, 3, (0,), (2,))
CANNOT = ("can", RULES, 3, (0,), (1,))
LEAST = ("least", RULES, 3, (0,), (2,), 1)
SAFE = ("safe", RULES, (3, ((0,),), ((1,),)))
LEAKING = ("safe", RULES, LEAK)
PAIRS = TRUE[3]
COMES = ("comes", RULES, TREE, 3, (2,), 1)
NEVER = ("never", RULES, TREE, 1, ((1,), (2,)))
LOST = ("lost", RULES, HOPELESS)

# Wrong tables, each by one part, and the fault of each.
TABLES = (
    ((TABLE[0][1:],) + TABLE[1:], ("start",)),
    ((put(TABLE[0], 0, ((0,), (0,), 0, 1)),) + TABLE[1:], ("start",)),
    ((put(TABLE[0], 0, ((0,), (0,), 1, 0)),) + TABLE[1:], ("start",)),
    (TABLE[:2] + (TABLE[2][:12] + TABLE[2][13:],), ("thing", 1, 2)),
    (TABLE[:2] + (TABLE[2][:4] + TABLE[2][5:],), ("thing", 4, 0)),
    (TABLE[:2] + (TABLE[2][1:],), ("thing", 0, 0)),
    (TABLE[:2] + (TABLE[2][:-1],), ("thing", 4, 3)),
    (TABLE[:2] + (put(TABLE[2], 17, (3, (0,), (2,), 1, 3)),), ("thing", 1, 3)),
    (TABLE[:2] + (put(TABLE[2], 17, (3, (0,), (2,), 2, 0)),), ("thing", 1, 3)),
    ((TABLE[0], (), TABLE[2]), ("move", 10, 0, 0)),
    ((TABLE[0], ((2, (0,), (1,), 1, 1),), TABLE[2]), ("move", 10, 0, 0)),
    ((TABLE[0], ((2, (0,), (1,), 2, 0),), TABLE[2]), ("move", 10, 0, 0)),
    (TABLE[:2] + (TABLE[2][:11] + TABLE[2][12:],), ("land", 0, 12)),
    (TABLE[:2] + (put(TABLE[2], 11, (2, (0,), (1,), 1, 2)),), ("land", 0, 13)),
    (TABLE[:2] + (put(TABLE[2], 11, (2, (0,), (1,), 2, 0)),), ("land", 0, 13)),
    ((TABLE[0][:1] + TABLE[0][2:],) + TABLE[1:], ("place", 11)),
    ((put(TABLE[0], 1, ((0,), (2,), 1, 3)),) + TABLE[1:], ("place", 11)),
    ((TABLE[0][:4],) + TABLE[1:], ("place", 9)),
)

# Wrong courses for a leaf from 0 to 2, each by one part, and the fault of each.
COURSES = (
    ((LEDGER[:2] + ((1, (0, 0, 1)),), (2,)), ("row", 2, ("rule", 0))),
    ((LEDGER[:2] + ((2, (1, 0, 1)),), (2,)), ("row", 2, ("from", 0))),
    ((LEDGER[:2] + ((2, (0, 0, 0)),), (2,)), ("row", 2, ("to", 0))),
    ((LEDGER[:2] + ((2, (0, 0, 1, 0, 1)),), (2,)), ("row", 2, ("from", 1))),
    ((LEDGER + ((0, (2, 0, 1)),), (2,)), ("row", 3, ("rule", 0))),
    ((LEDGER, (0, 0, 1)), ("chain", ("rule", 0))),
    ((LEDGER, (1,)), ("pair",)),
    ((LEDGER, (0,)), ("pair",)),
)


class Checks(unittest.TestCase):

    def fault(self, certificate, wanted, house=HOUSE):
        before = copy.deepcopy((house, certificate))
        self.assertEqual(first_fault(house, certificate), wanted)
        self.assertEqual(judge.first_fault(house, certificate), wanted)
        self.assertEqual((house, certificate), before)

    def right(self, certificate, house=HOUSE):
        self.fault(certificate, None, house)


class RightCertificates(Checks):

    def test_what_decide_returns(self):
        for certificate in certificates():
            self.right(certificate)

    def test_tables_with_other_costs(self):
        self.right(("broken", CANNOT, NAUGHT))
        self.right(("shown", SAFE, NAUGHT))
        self.right(("shown", NEVER, NAUGHT))
        self.right(("shown", LEAST[:5] + (1,), (COURSE, TABLE)))
        # The things of a cost may be any less.
        some = tuple(tuple(row[:-1] + (0,) for row in part) for part in TABLE)
        self.right(("shown", LEAST, (COURSE, some)))
        self.right(("broken", LEAST[:5] + (0,), ("more", some)))

    def test_tables_with_rows_put_in_that_are_closed(self):
        # All that there is, and as if the leaf could go from 1 to 0.
        rows = tuple(sorted(TABLE[2] + ((3, (1,), (0,), 7, 7),)))
        self.right(("broken", CANNOT, TABLE[:2] + (rows,)))
        moved = tuple(sorted(TABLE[1] + ((3, (0,), (2,), 9, 9), (0, (2,), (2,), 10 ** 70, 10 ** 70))))
        self.right(("shown", SAFE, (TABLE[0], moved, TABLE[2])))

    def test_more_rules_than_asked(self):
        self.right(("broken", put(CANNOT, 1, ()), TABLE))
        self.right(("shown", put(SAFE, 1, ()), TABLE))

    def test_courses_and_ledgers_with_rows_that_are_not_used(self):
        ledger = LEDGER + ((0, (2,)), ROOT, (1, (3,)))
        self.right(("shown", CAN, (ledger, (2,))))
        self.right(("broken", LEAKING, (ledger, (2,))))
        chains = ((0,), (2,), (1,), (6,), (7,))
        self.right(("shown", PAIRS, (TABLE, ledger + ((1, (2,)), (2, (1,)), (0, (7,))), chains)))

    def test_chains_in_another_way(self):
        rules = RULES + ((3, ((2,),), ((2,),)),)
        claim = ("can", rules, 3, (0,), (2,))
        for times in range(9):
            self.right(("shown", claim, (LEDGER + ((2, (1,)),), (2,) + (1, 3) * times)))

    def test_courses_and_ways_with_moves_that_stay(self):
        rules = ((3, ((0,),), ((0,),)), (2, ((0,),), ((0,), (1,))), (1, ((0,),), ((0,),)))
        for times in range(9):
            self.right(("shown", ("can", rules, 3, (0,), (0,)), ((ROOT,), (0, 0) * times + (0,))))
            n = 2 + times
            way = ((), (0, ((ROOT,), (0, 0) * times + (0,))))
            table = least_table(HOUSE, rules)
            tree = ((2, -1), (3, 0))
            self.right(("broken", ("comes", rules, tree, 1, (0,), n), ("less", way)))
            self.right(("broken", ("never", rules, tree, 1, ((0,),)), way))
            self.fault(("shown", ("comes", rules, tree, 1, (0,), n - 1), (way, table)), ("table", ("less",)))

    def test_reasons_that_exclude_nothing_or_are_said_twice(self):
        task = (TASK[0], TASK[1], (5,) * 2)
        rules = RULES * 2
        claim = ("withdraw", rules, task, 10)
        word, _, paper = decide(HOUSE, claim)
        self.assertEqual(word, "shown")
        course = course_for(HOUSE, rules, 3, (0,), (2,))
        for leaks in (paper[4] * 2, paper[4] + ((0, course),) * 3, ((0, course),) + paper[4] + paper[4][::-1]):
            self.right((word, claim, put(paper, 4, leaks)))
        hopeless = decide(HOUSE, LOST)[2]
        self.right(("shown", LOST, (hopeless[0] * 20, hopeless[1] * 20)))
        # That without any rule the wish is not kept excludes only that all are withdrawn.
        lacks = hopeless[1] + ((0, (), BARE),)
        self.right(("shown", LOST, (hopeless[0], lacks)))

    def test_a_table_for_more_rules_than_kept(self):
        # Closed for all rules, and so for those that are kept.
        task = ((), ((3, (0,), (1,)),), (5,))
        self.right(("shown", ("lost", RULES, task), ((), ((0, (0,), TABLE),))))
        self.fault(("shown", ("lost", RULES, task), ((), ((0, (), TABLE),))), ("open", ()))

    def test_other_withdrawals_and_tables_of_the_same_price(self):
        rules = RULES + ((3, ((2,),), ((0,),)),)
        task = ((LEAK,), (), (5, 0))
        for withdrawal in ((0,), (0, 1)):
            paper = (withdrawal, (BARE if withdrawal == (0, 1) else least_table(HOUSE, rules[1:]),), (ROOT,), ())
            self.right(("broken", ("lost", rules, task), paper))
            self.right(("broken", ("withdraw", rules, task, 6), ("less",) + paper))


class OfCourses(Checks):

    def test_rows_chains_and_pairs(self):
        for course, fault in COURSES:
            self.fault(("shown", CAN, course), fault)
            self.fault(("broken", LEAKING, course), fault)
            self.fault(("shown", LEAST, (course, TABLE)), ("course", fault))
            self.fault(("broken", LEAST[:5] + (2,), ("less", course)), ("course", fault))
            self.fault(("shown", LOST, (((0, course),), ())), ("leak", 0, fault))
            if fault != ("pair",):
                self.fault(("broken", PAIRS, ("lacks", course)), ("course", fault))

    def test_the_example(self):
        self.fault(("shown", CANNOT, COURSE), ("pair",))

    def test_from_and_to_of_the_chain(self):
        claim = ("can", RULES, 2, (0,), (1,))
        self.right(("shown", claim, (LEDGER, (0, 0, 1))))
        self.fault(("shown", claim, (LEDGER, (1, 0, 1))), ("chain", ("from", 0)))
        self.fault(("shown", claim, (LEDGER, (0, 0, 0))), ("chain", ("to", 0)))
        self.fault(("shown", claim, (LEDGER, (0, 0, 1, 0, 1))), ("chain", ("from", 1)))
        rules = RULES + ((2, ((1,),), ((1,), (0,))[::-1]),)
        self.right(("shown", put(claim, 1, rules), (LEDGER, (0, 0, 1, 1, 0, 0, 1))))
        self.fault(("shown", put(claim, 1, rules), (LEDGER, (0, 0, 1, 1, 2, 0, 1))), ("chain", ("from", 2)))

    def test_the_first_part_of_the_pair(self):
        self.fault(("shown", ("can", RULES, 3, (2,), (2,)), COURSE), ("pair",))
        self.fault(("broken", ("safe", RULES, (3, ((1,), (2,)), ((2,),))), COURSE), ("pair",))
        self.fault(("broken", ("safe", RULES, (3, ((0,),), ((0,), (1,)))), COURSE), ("pair",))
        self.right(("broken", ("safe", RULES, (3, ((0,), (1,)), ((1,), (2,)))), COURSE))

    def test_moves(self):
        for n in (0, 2, 3, 10 ** 70):
            self.fault(("shown", LEAST[:5] + (n,), (COURSE, TABLE)), ("course", ("moves",)))
        for n in (0, 1):
            self.fault(("broken", LEAST[:5] + (n,), ("less", COURSE)), ("course", ("moves",)))
        for n in (2, 3, 10 ** 70):
            self.right(("broken", LEAST[:5] + (n,), ("less", COURSE)))
        longer = (LEDGER[:2] + ((2, (0, 0, 1)), (2, (0, 0, 1))), (3,))
        self.right(("shown", LEAST, (longer, TABLE)))

    def test_costs_that_are_very_great(self):
        rules = ((0, ((0,),), ((0,),)),)
        ledger = (ROOT,) + tuple((0, (k, 0) * 8 + (k,)) for k in range(99))
        claim = ("least", rules, 0, (0,), (0,), 10 ** 70)
        self.fault(("broken", claim, ("less", (ledger, (99,)))), ("course", ("moves",)))
        self.right(("broken", claim, ("less", (ledger, (60,)))))
        self.right(("shown", ("can",) + claim[1:5], (ledger, (99,))))


class OfTables(Checks):

    def test_each_fault(self):
        for table, fault in TABLES:
            self.fault(("broken", CANNOT, table), fault)
            self.fault(("shown", SAFE, table), fault)
            self.fault(("shown", NEVER, table), fault)
            self.fault(("shown", LEAST, (COURSE, table)), ("table", fault))
            self.fault(("broken", LEAST[:5] + (0,), ("more", table)), ("table", fault))
            self.fault(("broken", COMES[:5] + (0,), ("more", table)), ("table", fault))
            self.fault(("shown", PAIRS, (table,) + decide(HOUSE, PAIRS)[2][1:]), ("table", fault))
            self.fault(("broken", FALSE[5], ("wrong", 1, table)), ("table", fault))
            task = ((), ((3, (0,), (1,)),), (5,))
            self.fault(("shown", ("lost", RULES, task), ((), ((0, (0,), table),))), ("lack", 0, fault))
            kept = (((3, ((0,),), ((1,),)),), (), (5,))
            self.fault(("broken", ("lost", RULES, kept), ((), (table,), (ROOT,), ())), ("table", 0, fault))

    def test_a_row_that_it_must_not_have(self):
        self.fault(("broken", CAN, TABLE), ("pair",))
        self.fault(("shown", LEAKING, TABLE), ("pair",))
        self.fault(("shown", ("safe", RULES, (3, ((0,), (1,)), ((0,), (1,)))), TABLE), ("pair",))
        self.fault(("broken", PAIRS, ("wrong", 0, TABLE)), ("table", ("pair",)))
        rows = tuple(sorted(TABLE[2] + ((3, (0,), (1,), 7, 7),)))
        self.fault(("broken", CANNOT, TABLE[:2] + (rows,)), ("pair",))
        self.right(("broken", ("can", RULES, 3, (1,), (0,)), TABLE[:2] + (rows,)))
        self.fault(("shown", SAFE, TABLE[:2] + (rows,)), ("pair",))
        self.right(("shown", ("safe", RULES, (2, ((1,),), ((0,),))), TABLE[:2] + (rows,)))

    def test_too_few_moves(self):
        self.fault(("shown", LEAST, (COURSE, NAUGHT)), ("table", ("less",)))
        self.fault(("broken", LEAST[:5] + (1,), ("more", TABLE)), ("table", ("less",)))
        self.fault(("broken", LEAST[:5] + (0,), ("more", NAUGHT)), ("table", ("less",)))
        self.fault(("broken", LEAST[:5] + (10 ** 70,), ("more", TABLE)), ("table", ("less",)))
        self.right(("broken", LEAST[:5] + (0,), ("more", TABLE)))
        self.right(("broken", ("least", RULES, 3, (0,), (1,), 10 ** 70), ("more", TABLE)))
        self.right(("broken", ("least", RULES, 3, (0,), (1,), 10 ** 70), ("more", NAUGHT)))

    def test_other_rules(self):
        self.fault(("broken", CANNOT, BARE), ("move", 6, 0, 0))
        self.right(("broken", put(CANNOT, 1, ()), BARE))
        rules = ((3, ((0,), (1,)), ((0,), (1,), (2,))),) + RULES
        self.fault(("broken", ("can", rules, 3, (2,), (1,)), TABLE), ("move", 16, 0, 0))
        self.fault(("broken", ("can", RULES + rules[:1], 3, (2,), (1,)), TABLE), ("move", 16, 1, 0))

    def test_the_least_index_of_to_that_lacks(self):
        rules = RULES + ((3, ((2,),), ((0,), (1,), (2,))),)
        table = least_table(HOUSE, rules)
        claim = ("can", rules, 0, (2,), (0,))
        self.right(("broken", claim, table))
        asked = [row for row in table[2] if row[0] == 3 and row[2] == (2,)]
        row = table[2].index(asked[0])
        for c, d in enumerate(((0,), (1,), (2,))):
            moved = tuple(one for one in table[1] if one[:3] != (3, asked[0][1], d))
            self.fault(("broken", claim, (table[0], moved, table[2])), ("move", row, 1, c))


class OfPairs(Checks):

    def setUp(self):
        self.paper = decide(HOUSE, PAIRS)[2]

    def test_pairs(self):
        for k in range(5):
            claim = put(PAIRS, 3, PAIRS[3][:k] + PAIRS[3][k + 1:])
            chains = self.paper[2][:k] + self.paper[2][k + 1:]
            self.fault(("shown", claim, put(self.paper, 2, chains)), ("pairs",))
        claim = FALSE[5]
        chains = self.paper[2][:1] + self.paper[2][:1] + self.paper[2][1:]
        self.fault(("shown", claim, put(self.paper, 2, chains)), ("pairs",))
        rows = tuple(sorted(TABLE[2] + ((3, (1,), (0,), 7, 7),)))
        self.fault(("shown", PAIRS, put(self.paper, 0, TABLE[:2] + (rows,))), ("pairs",))

    def test_ledger(self):
        for course, fault in COURSES[:5]:
            paper = (TABLE, course[0], ((0,),) * 5)
            self.fault(("shown", PAIRS, paper), ("ledger", fault))

    def test_chains(self):
        ledger = LEDGER + ((1, (2,)), (2, (1,)))
        chains = ((0,), (2,), (1,), (3,), (4,))
        self.right(("shown", PAIRS, (TABLE, ledger, chains)))
        for j in range(5):
            self.fault(("shown", PAIRS, (TABLE, ledger, put(chains, j, (0, 0, 1)))), ("chain", j, ("rule", 0)))
            other = chains[(j + 1) % 5]
            self.fault(("shown", PAIRS, (TABLE, ledger, put(chains, j, other))), ("chain", j, ("pair",)))
        self.fault(("shown", PAIRS, (TABLE, ledger, chains[::-1])), ("chain", 0, ("pair",)))
        self.fault(("shown", PAIRS, (TABLE, ledger, put(chains[::-1], 0, (2, 0, 1)))), ("chain", 0, ("rule", 0)))

    def test_chains_of_the_item(self):
        pairs = tuple(row[1:3] for row in TABLE[2] if row[0] == 2)
        claim = ("pairs", RULES, 2, pairs)
        _, _, (table, ledger, chains) = decide(HOUSE, claim)
        self.assertEqual(pairs[1], ((0,), (1,)))
        root, team = ledger.index(ROOT), ledger.index((1, (ledger.index(ROOT),)))
        self.assertEqual(chains[1], (root, 0, team))
        for chain, fault in (
            ((team, 0, team), ("from", 0)), ((root, 0, root), ("to", 0)), ((root, 0, team, 0, team), ("from", 1)),
        ):
            self.fault(("shown", claim, (table, ledger, put(chains, 1, chain))), ("chain", 1, fault))

    def test_lacks(self):
        for pair in PAIRS[3]:
            course = course_for(HOUSE, RULES, 3, *pair)
            self.fault(("broken", PAIRS, ("lacks", course)), ("among",))
            claim = put(PAIRS, 3, tuple(one for one in PAIRS[3] if one != pair))
            self.right(("broken", claim, ("lacks", course)))
        self.fault(("broken", put(PAIRS, 3, ()), ("lacks", COURSES[0][0])), ("course", COURSES[0][1]))

    def test_wrong(self):
        claim = FALSE[5]
        for index in range(6):
            wanted = None if index == 1 else ("table", ("pair",))
            self.fault(("broken", claim, ("wrong", index, TABLE)), wanted)


class OfWays(Checks):

    def setUp(self):
        self.rules = RULES + ((3, ((2,),), ((1,),)),)
        self.tree = ((2, -1), (3, 0))
        self.claim = ("comes", self.rules, self.tree, 1, (1,), 2)
        # The wide folder goes into a place with 1, and then the leaf, which has 2, into another one.
        self.team = ((ROOT, (1, (0,))), (1,))
        self.way = ((0, self.team), (1, self.team))
        self.table = least_table(HOUSE, self.rules)

    def comes(self, way, wanted):
        inner = None if wanted is None else ("way", wanted)
        self.fault(("shown", self.claim, (way, self.table)), inner)
        less = put(self.claim, 5, 3)
        if wanted != ("moves",):
            self.fault(("broken", less, ("less", way)), inner)
            never = ("never", self.rules, self.tree, 1, ((1,),))
            self.fault(("broken", never, way), wanted)

    def test_a_right_one(self):
        self.comes(self.way, None)

    def test_entries(self):
        way, team = self.way, self.team
        self.comes(put(way, 0, (1, team)), ("entry", 0, ("rule",)))
        self.comes(put(way, 1, (0, team)), ("entry", 1, ("rule",)))
        self.comes(put(way, 0, ()), ("entry", 1, ("from",)))
        self.comes(put(way, 0, (0, ROOT_COURSE)), ("entry", 0, ("to",)))
        self.comes(put(way, 1, (1, ROOT_COURSE)), ("entry", 1, ("to",)))
        for course, fault in COURSES[:5]:
            self.comes(put(way, 1, (1, course)), ("entry", 1, ("course", fault)))
        wrong = (team[0], (1, 0, 1))
        self.comes(put(way, 0, (0, wrong)), ("entry", 0, ("course", ("chain", ("from", 0)))))
        self.comes(put(way, 1, (1, wrong)), ("entry", 1, ("course", ("chain", ("rule", 0)))))

    def test_the_first_of_an_entry(self):
        wrong = ((ROOT, (1, (0,)), (1, (0, 0, 1))), (0,))
        self.comes(((), (0, wrong)), ("entry", 1, ("rule",)))
        self.comes(((), (1, wrong)), ("entry", 1, ("from",)))
        self.comes(put(self.way, 1, (1, wrong)), ("entry", 1, ("course", ("row", 2, ("rule", 0)))))
        self.comes(((1, wrong), (1, wrong)), ("entry", 0, ("rule",)))

    def test_content(self):
        self.comes(put(self.way, 1, ()), ("content",))
        self.comes(((), ()), ("content",))
        ledger = (ROOT, (1, (0,)), (2, (0, 0, 1)), (1, (2,)))
        self.comes(put(self.way, 1, (1, (ledger, (3,)))), ("content",))

    def test_moves(self):
        for n in (0, 1, 3, 10 ** 70):
            self.fault(("shown", put(self.claim, 5, n), (self.way, self.table)), ("way", ("moves",)))
        for n in (0, 1, 2):
            self.fault(("broken", put(self.claim, 5, n), ("less", self.way)), ("way", ("moves",)))
        self.right(("broken", put(self.claim, 5, 3), ("less", self.way)))
        # The moves of courses count, too.
        ledger = (ROOT, (1, (0,)), (2, (0, 0, 1)), (1, (2,)))
        claim = put(put(self.claim, 4, (2,)), 5, 3)
        longer = put(self.way, 1, (1, (ledger, (3,))))
        self.fault(("shown", claim, (longer, self.table)), ("table", ("less",)))
        self.fault(("broken", claim, ("less", longer)), ("way", ("moves",)))
        self.right(("broken", put(claim, 5, 4), ("less", longer)))

    def test_levels(self):
        self.fault(("shown", COMES, (decide(HOUSE, COMES)[2][0], NAUGHT)), None)
        self.fault(("broken", put(COMES, 5, 1), ("more", TABLE)), ("table", ("less",)))
        self.fault(("broken", put(COMES, 5, 10 ** 70), ("more", TABLE)), ("table", ("less",)))
        self.right(("broken", put(COMES, 5, 0), ("more", TABLE)))
        self.right(("broken", ("comes", RULES, TREE, 3, (1,), 10 ** 70), ("more", TABLE)))
        self.fault(("shown", ("never", RULES, TREE, 3, ((1,), (2,))), TABLE), ("content",))
        self.right(("shown", ("never", RULES, TREE, 3, ((1,),)), TABLE))
        self.fault(("shown", ("never", RULES, TREE, 3, ((0,),)), TABLE), ("content",))

    def test_levels_with_costs_that_are_less(self):
        rules = RULES
        tree = ((2, -1),)
        claim = ("comes", rules, tree, 0, (2,), 2)
        way = decide(HOUSE, claim)[2][0]
        self.right(("shown", claim, (way, TABLE)))
        self.fault(("shown", claim, (way, NAUGHT)), ("table", ("less",)))
        self.fault(("broken", put(claim, 5, 1), ("more", NAUGHT)), ("table", ("less",)))

    def test_levels_with_rows_put_in(self):
        # As if a leaf could come from 0 to 1: a table that is closed, but its levels have more than there is.
        rules = ((3, ((2,),), ((0,),)),)
        rows = tuple(sorted(least_table(HOUSE, rules)[2] + ((3, (0,), (1,), 7, 7), (3, (2,), (1,), 8, 7))))
        table = least_table(HOUSE, rules)[:2] + (rows,)
        tree = ((1, -1), (2, 0), (3, 1))
        self.right(("shown", ("never", rules, tree, 2, ((1,),)), least_table(HOUSE, rules)))
        self.fault(("shown", ("never", rules, tree, 2, ((1,),)), table), ("content",))
        self.right(("broken", ("comes", rules, tree, 2, (1,), 7), ("more", table)))
        self.fault(("broken", ("comes", rules, tree, 2, (1,), 8), ("more", table)), ("table", ("less",)))

    def test_entries_for_folders_of_the_path_make_what_lies_in_them(self):
        tree = ((1, -1), (2, 0), (3, 1))
        claim = ("comes", (), tree, 2, (2,), 0)
        self.right(("shown", claim, (((), (), ()), BARE)))
        self.fault(("shown", put(claim, 4, (1,)), (((), (), ()), BARE)), ("way", ("content",)))
        self.right(("broken", ("never", (), tree, 1, ((1,),)), ((), ())))


class OfWithdrawals(Checks):

    def setUp(self):
        self.rules = RULES + RULES + ((3, ((1,),), ((0,), (2,))),)
        self.task = ((LEAK,), ((3, (1,), (2,)), (0, (2,), (2,))), (5, 6, 0))
        self.claim = ("withdraw", self.rules, self.task, 11)
        word, _, self.paper = decide(HOUSE, self.claim)
        self.assertEqual(word, "shown")
        self.left = least_table(HOUSE, self.rules[2:])

    def test_price(self):
        for n in (0, 10, 12, 594):
            self.fault(("shown", put(self.claim, 3, n), self.paper), ("price",))
        for n in (0, 10, 11):
            self.fault(("broken", put(self.claim, 3, n), ("less",) + self.paper[:4]), ("price",))
        self.right(("broken", put(self.claim, 3, 12), ("less",) + self.paper[:4]))
        for withdrawal in ((), (0,), (1, 2), (0, 2)):
            self.fault(("shown", self.claim, put(self.paper, 0, withdrawal)), ("price",))

    def test_tables(self):
        whole = least_table(HOUSE, self.rules)
        self.fault(("shown", self.claim, put(self.paper, 1, (whole,))), ("table", 0, ("pair",)))
        # The leaf's rule, with index 2, is left; the others ask for nothing.
        self.fault(("shown", self.claim, put(self.paper, 1, (BARE,))), ("table", 0, ("move", 10, 2, 0)))
        self.right(("shown", self.claim, put(self.paper, 1, (self.left,))))

    def test_each_table_for_its_leak(self):
        rules = ((3, ((0,),), ((1,),)), (3, ((1,),), ((2,),)))
        leaks = ((3, ((0,),), ((1,),)), (3, ((1,),), ((2,),)))
        first, second = least_table(HOUSE, rules[:1]), least_table(HOUSE, rules[1:])
        claim = ("lost", rules, (leaks, (), (1, 1)))
        self.fault(("broken", claim, ((0, 1), (first, second), (ROOT,), ())), ("table", 0, ("pair",)))
        self.right(("broken", claim, ((0, 1), (second, first), (ROOT,), ())))
        self.fault(("broken", claim, ((0, 1), (second, second), (ROOT,), ())), ("table", 1, ("pair",)))
        self.fault(("broken", claim, ((1,), (second, second), (ROOT,), ())), ("table", 0, ("move", 9, 0, 0)))

    def test_a_rule_that_is_withdrawn(self):
        task = ((), ((2, (0,), (1,)), (3, (0,), (2,))), (5, 6, 0))
        claim = ("lost", self.rules, task)
        for out, used in ((0, 1), (1, 0)):
            ledger = (ROOT, (1, (0,)), (2, (0, used, 1)))
            right = ((out,), (), ledger, ((0, used, 1), (2,)))
            self.right(("broken", claim, right))
            self.fault(("broken", claim, put(right, 0, (used,))), ("ledger", ("row", 2, ("rule", 0))))
            self.fault(("broken", claim, put(right, 3, ((0, out, 1), (2,)))), ("chain", 0, ("rule", 0)))
            self.fault(("broken", claim, put(right, 2, put(ledger, 2, (2, (0, out, 1))))), (
                "ledger", ("row", 2, ("rule", 0))))
            self.right(("broken", ("withdraw", self.rules, task, 7), ("less",) + right))

    def test_a_rule_of_any_item_that_is_withdrawn(self):
        for item in range(4):
            rules = ((item, ((0,),), ((1,),)),) * 2
            claim = ("lost", rules, ((), ((item, (0,), (1,)),), (1, 1)))
            ledger = (ROOT, (1, (0,)))
            for out, used, fault in (((1,), 0, None), ((0,), 0, ("rule", 0)), ((0, 1), 1, ("rule", 0)), ((), 1, None)):
                wanted = None if fault is None else ("chain", 0, fault)
                self.fault(("broken", claim, (out, (), ledger, ((0, used, 1),))), wanted)

    def test_ledger_and_chains(self):
        ledger = (ROOT, (1, (0,)), (2, (1,)))
        right = put(put(self.paper, 2, ledger), 3, ((1, 2, 2), (2,)))
        self.right(("shown", self.claim, right))
        for chains, fault in (
            (((2,), (2,)), ("chain", 0, ("pair",))), (((1, 2, 2), (1,)), ("chain", 1, ("pair",))),
            (((0, 2, 2), (2,)), ("chain", 0, ("from", 0))), (((1, 2, 1), (2,)), ("chain", 0, ("to", 0))),
            (((1, 2, 2), (1, 2, 2)), ("chain", 1, ("rule", 0))), (((1, 0, 2), (1,)), ("chain", 0, ("rule", 0))),
        ):
            self.fault(("shown", self.claim, put(right, 3, chains)), fault)
            self.fault(("broken", put(self.claim, 3, 12), ("less",) + put(right, 3, chains)[:4]), fault)
        wrong = put(right, 2, put(ledger, 2, (2, (1, 2, 1))))
        self.fault(("shown", self.claim, wrong), ("ledger", ("row", 2, ("rule", 0))))

    def test_leaks(self):
        for course, fault in COURSES:
            paper = put(self.paper, 4, self.paper[4] + ((0, course),))
            self.fault(("shown", self.claim, paper), ("leak", len(self.paper[4]), fault))
            self.fault(("shown", self.claim, put(paper, 4, paper[4][::-1])), ("leak", 0, fault))
            self.fault(("broken", put(self.claim, 3, 10), ("more", ((0, course),), ())), ("leak", 0, fault))
        self.assertEqual(len(self.paper[4]), 2)

    def test_leaks_by_their_index(self):
        leaks = (LEAK, (2, ((0,),), ((1,),)))
        claim = ("lost", RULES, (leaks, (WISH,), (5,)))
        lacks = ((0, (), BARE),)
        step = (LEDGER, (0, 0, 1))
        self.right(("shown", claim, (((0, COURSE),), lacks)))
        self.right(("shown", claim, (((1, step),), lacks)))
        self.fault(("shown", claim, (((1, COURSE),), lacks)), ("leak", 0, ("pair",)))
        self.fault(("shown", claim, (((0, step),), lacks)), ("leak", 0, ("chain", ("rule", 0))))
        self.fault(("shown", claim, (((0, COURSE), (1, COURSE)), lacks)), ("leak", 1, ("pair",)))

    def test_lacks(self):
        right = decide(HOUSE, LOST)[2]
        self.assertEqual(right[1], ((0, (), BARE),))
        self.fault(("shown", LOST, (right[0], ((0, (0,), BARE),))), ("lack", 0, ("move", 6, 0, 0)))
        self.fault(("shown", LOST, (right[0], ((0, (0,), TABLE),))), ("lack", 0, ("pair",)))
        self.fault(("shown", LOST, (right[0], ((0, (), TABLE),))), ("lack", 0, ("pair",)))
        self.fault(("shown", LOST, (right[0], right[1] + ((0, (0,), TABLE),))), ("lack", 1, ("pair",)))

    def test_lacks_by_their_index_and_by_what_is_kept(self):
        rules = ((3, ((0,),), ((1,),)), (3, ((1,),), ((2,),)))
        wishes = ((3, (0,), (1,)), (3, (0,), (2,)))
        task = (((3, ((0,),), ((1,),)),), wishes, (1, 1))
        claim = ("lost", rules, task)
        leak = (0, course_for(HOUSE, rules, 3, (0,), (1,)))
        first, second = least_table(HOUSE, rules[:1]), least_table(HOUSE, rules[1:])
        self.right(("shown", claim, ((leak,), ((0, (1,), second),))))
        self.right(("shown", claim, ((leak,), ((1, (1,), second),))))
        self.fault(("shown", claim, ((leak,), ((0, (0,), first),))), ("lack", 0, ("pair",)))
        self.fault(("shown", claim, ((leak,), ((1, (0,), first),))), ("open", (0,)))
        self.fault(("shown", claim, ((leak,), ((0, (0,), second),))), ("lack", 0, ("move", 9, 0, 0)))
        self.fault(("shown", claim, ((leak,), ((0, (), second),))), ("open", (0,)))

    def test_open_withdrawals_as_tuples_ascend(self):
        task = (TASK[0], (), (1, 2, 4))
        rules = RULES * 3
        claim = ("lost", rules, task)

        def leak(rule):
            ledger = (ROOT, (1, (0,)), (2, (0, rule, 1)))
            return (0, (ledger, (2,)))

        self.fault(("shown", claim, ((), ())), ("open", ()))
        self.fault(("shown", claim, ((leak(0),), ())), ("open", (0,)))
        self.fault(("shown", claim, ((leak(1),), ())), ("open", (0, 1)))
        self.fault(("shown", claim, ((leak(2),), ())), ("open", (0, 1, 2)))
        self.fault(("shown", claim, ((leak(1), leak(2)), ())), ("open", (0, 1, 2)))
        more = ("withdraw", rules, task, 3)
        self.fault(("broken", more, ("more", (), ())), ("open", ()))
        self.fault(("broken", more, ("more", (leak(1),), ())), ("open", (0, 1)))
        self.fault(("broken", put(more, 3, 2), ("more", (leak(1),), ())), ("open", (1,)))
        self.fault(("broken", put(more, 3, 2), ("more", (leak(0),), ())), ("open", (0,)))
        self.right(("broken", put(more, 3, 1), ("more", (leak(1),), ())))
        self.right(("broken", more, ("more", (leak(2),), ())))
        self.right(("broken", put(more, 3, 6), ("more", (leak(0), leak(1), leak(2)), ())))
        self.fault(("broken", put(more, 3, 7), ("more", (leak(0), leak(1), leak(2)), ())), ("open", (0, 1, 2)))

    def test_only_those_of_a_lower_price_must_be_excluded(self):
        for reason in self.paper[4]:
            # Each reason is against what leaves its one rule of the wide folder.
            used = used_rules(reason[1])[0]
            self.fault(("shown", self.claim, put(self.paper, 4, (reason,))), ("open", (used,)))
        self.fault(("shown", self.claim, put(self.paper, 4, ())), ("open", ()))
        free = ("withdraw", self.rules, (self.task[0], self.task[1], (0, 0, 9)), 0)
        fix = self.paper[:4]
        self.right(("shown", free, fix + ((), ())))
        self.fault(("shown", put(free, 2, (self.task[0], self.task[1], (1, 0, 9))), fix + ((), ())), ("price",))


class TwoFaults(Checks):

    def test_course_ahead_of_table(self):
        self.fault(("shown", LEAST, (COURSES[0][0], TABLES[0][0])), ("course", COURSES[0][1]))
        self.fault(("shown", put(LEAST, 5, 2), (COURSE, TABLES[0][0])), ("course", ("moves",)))
        self.fault(("shown", put(LEAST, 5, 2), (COURSES[6][0], TABLE)), ("course", ("pair",)))

    def test_way_ahead_of_table(self):
        self.fault(("shown", COMES, (((), (), ()), TABLES[0][0])), ("way", ("content",)))
        self.fault(("shown", put(COMES, 5, 3), (((), (), ()), TABLE)), ("way", ("content",)))
        self.fault(("shown", put(COMES, 5, 3), (decide(HOUSE, COMES)[2][0], TABLES[0][0])), ("way", ("moves",)))

    def test_the_tables_own_faults_ahead_of_others(self):
        for table, fault in TABLES:
            self.fault(("broken", put(CAN, 4, (0,)), table), fault)
            self.fault(("shown", put(NEVER, 4, ((0,),)), table), fault)
            self.fault(("shown", LEAKING, table), fault)
            self.fault(("broken", LEAST, ("more", table)), ("table", fault))
            self.fault(("broken", COMES, ("more", table)), ("table", fault))

    def test_faults_of_tables_in_their_order(self):
        orders = ("start", "thing", "move", "land", "place")
        for first, one in TABLES:
            for second, other in TABLES:
                # Each part of a table from the one or the other.
                for mixed in ((first[0],) + second[1:], first[:1] + (second[1],) + first[2:], first[:2] + second[2:]):
                    fault = first_fault(HOUSE, ("broken", CANNOT, mixed))
                    self.assertEqual(fault, judge.first_fault(HOUSE, ("broken", CANNOT, mixed)))
                    self.assertTrue(fault is None or fault[0] in orders)

    def test_pairs_in_their_order(self):
        table, ledger, chains = decide(HOUSE, PAIRS)[2]
        wrong = LEDGER[:2] + ((2, (0, 0, 0)),)
        less = put(PAIRS, 3, PAIRS[3][1:])
        self.fault(("shown", less, (TABLES[0][0], wrong, ((0,),) * 4)), ("table", TABLES[0][1]))
        self.fault(("shown", less, (table, wrong, ((0,),) * 4)), ("pairs",))
        self.fault(("shown", PAIRS, (table, wrong, ((0,),) * 5)), ("ledger", ("row", 2, ("to", 0))))
        self.fault(("shown", PAIRS, (table, ledger, chains[::-1])), ("chain", 0, ("pair",)))

    def test_withdrawals_in_their_order(self):
        task = ((LEAK, LEAK), ((3, (0,), (2,)), (2, (0,), (1,))), (5,))
        claim = ("withdraw", RULES, task, 5)
        bad = LEDGER[:2] + ((2, (0, 0, 0)),)
        leaks = ((0, COURSE), (1, COURSES[0][0]))
        lacks = ((0, (), BARE), (1, (0,), BARE))
        parts = [(0,), (TABLE, BARE), bad, ((0,), (0,)), leaks, lacks]
        better = [None, (BARE, BARE), (ROOT, (1, (0,))), None, ((0, COURSE),), ((0, (), BARE),)]
        self.fault(("shown", put(claim, 3, 4), tuple(parts)), ("price",))
        self.fault(("shown", claim, tuple(parts)), ("table", 0, ("pair",)))
        parts[1] = better[1]
        self.fault(("shown", claim, tuple(parts)), ("ledger", ("row", 2, ("rule", 0))))
        parts[2] = better[2]
        self.fault(("shown", claim, tuple(parts)), ("chain", 0, ("pair",)))
        self.fault(("shown", claim, tuple(put(tuple(parts), 3, ((0, 0, 1), (0,))))), ("chain", 0, ("rule", 0)))
        lost = ("lost", RULES, task)
        self.fault(("shown", lost, (leaks, lacks)), ("leak", 1, COURSES[0][1]))
        self.fault(("shown", lost, (better[4], lacks)), ("lack", 1, ("move", 6, 0, 0)))
        self.fault(("shown", lost, (better[4], ())), ("open", (0,)))
        self.right(("shown", lost, (better[4], better[5])))


class AnyCertificates(Checks):

    def test_one_word_for_each_claim(self):
        for certificate in certificates():
            word, claim, paper = certificate
            other = "broken" if word == "shown" else "shown"
            self.assertIsNotNone(first_fault(HOUSE, (other, claim, paper)))
            self.fault((other, claim, paper), judge.first_fault(HOUSE, (other, claim, paper)))

    def test_certificates_of_other_claims(self):
        accepted = 0
        for word, claim, paper in certificates():
            for other in TRUE + FALSE:
                for said in ("shown", "broken"):
                    fault = first_fault(HOUSE, (said, other, paper))
                    self.assertEqual(fault, judge.first_fault(HOUSE, (said, other, paper)))
                    if fault is None:
                        accepted += 1
                        self.assertEqual(said == "shown", judge.is_true(HOUSE, other))
        self.assertGreater(accepted, len(TRUE + FALSE))

    def test_what_is_accepted_is_true(self):
        rng = random.Random(19)
        found = []
        for house, rules in list(SAMPLES) + random_samples(25):
            papers = [decide(house, claim) for claim in claims_about(rng, house, rules)]
            for word, claim, paper in papers:
                for other, _, another in papers:
                    certificate = (other, claim, another)
                    fault = first_fault(house, certificate)
                    found.append(fault)
                    if fault is None:
                        self.assertEqual(other == "shown", judge.is_true(house, claim))
        self.assertGreater(found.count(None), 300)

    def test_a_little_wrong(self):
        rng = random.Random(20)
        found = []
        for house, rules in list(SAMPLES) + [(HOUSE, MORE)] * 3 + random_samples(30):
            for claim in claims_about(rng, house, rules):
                certificate = decide(house, claim)
                for times in (1, 2):
                    found.append(self.agree(house, disturbed(rng, certificate, times)))
                for _ in range(6):
                    found.append(self.agree(house, certificate[:2] + (nudged(rng, certificate[2]),)))
        heads = [None if fault is None else fault[0] for fault in found]
        for head in (
            None, "form", "claim", "paper", "start", "thing", "move", "land", "place", "pair", "course", "table",
            "among", "leak", "lack", "open", "way", "chain", "row",
        ):
            self.assertIn(head, heads)

    def agree(self, house, certificate):
        fault = first_fault(house, certificate)
        self.assertEqual(fault, judge.first_fault(house, certificate))
        return fault

    def test_another_house(self):
        for certificate in certificates():
            for house in ((HOUSE[0], (1,), HOUSE[2]), (HOUSE[0], (0,), HOUSE[2][::-1]), ((2,), (0,), HOUSE[2][:2])):
                self.fault(certificate, judge.first_fault(house, certificate), house)

    def test_by_names(self):
        for certificate in certificates():
            self.assertIsNone(first_fault(certificate=certificate, house=HOUSE))
            self.assertIsNone(first_fault(house=HOUSE, certificate=certificate))
        self.assertEqual(first_fault(certificate=(), house=HOUSE), ("form",))

    def test_strange_values(self):
        for value in strange_values():
            if not (isinstance(value, tuple) and len(value) == 3):
                self.assertEqual(first_fault(HOUSE, value), ("form",))
            else:
                self.assertEqual(first_fault(HOUSE, value), ("claim",))
            for word, claim, paper in certificates():
                self.assertEqual(first_fault(HOUSE, (value, claim, paper)), ("paper",))
                self.assertEqual(first_fault(HOUSE, (word, value, paper)), ("claim",))


if __name__ == "__main__":
    unittest.main()
