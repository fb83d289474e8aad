"""Points 17 and 18: ("paper",) for what is not of its form, wherever in the paper, ahead of every other fault."""

import random
import unittest

from movedfolders.checker import first_fault
from movedfolders.claims import decide
from movedfolders.tables import least_table
from tests import judge
from tests.claiming import FALSE, HOPELESS, LEAK, TASK, TREE, TRUE, WISH, certificates
from tests.samples import changes, exchanged, part_at, places_in
from tests.support import HOUSE, NO_INTEGERS, RULES, put, strange_values

ROOT = ("root",)
LEDGER = (ROOT, (1, (0,)), (2, (0, 0, 1)))
COURSE = (LEDGER, (2,))
TABLE = least_table(HOUSE, RULES)
BARE = least_table(HOUSE, ())
# Right by its form, but with a fault that is told first of all, if all of the paper is of its form.
WRONG_TABLE = ((), (), ())
WRONG_COURSE = ((ROOT, (0, (0, 0, 0))), (1,))

BIG = 10 ** 70
CAN, LEAST, SAFE, PAIRS, COMES, NEVER, WITHDRAW, LOST = TRUE
WAY = ((), (0, ((ROOT, (1, (0,))), (1,))), ())

# What is no course by its form, each wrong in one part.
NO_COURSES = (
    None, (), [], 0, "course", list(COURSE), COURSE + ((),), COURSE[:1], (COURSE,), (list(LEDGER), (2,)), (LEDGER, [2]),
    (LEDGER, ()), (LEDGER, (2, 0)), (LEDGER, (3,)), (LEDGER, (-1,)), (LEDGER, (True,)), (LEDGER, (2, 1, 1)),
    (LEDGER, (2, True, 1)), (LEDGER, (2, -1, 1)), (LEDGER, ("2",)), ((), ()), ((), (0,)), ((("Root",),) + LEDGER[1:], (2,)),
    ((ROOT, (1, (1,)), ROOT), (0,)), ((ROOT, (1, (2,)), ROOT), (0,)), ((ROOT, (3, (0,))), (0,)), ((ROOT, (-1, (0,))), (0,)),
    ((ROOT, (True, (0,))), (0,)), ((ROOT, (1, (0,), 0)), (0,)), ((ROOT, (1,)), (0,)), ((ROOT, [1, (0,)]), (0,)),
    ((ROOT, (1, [0])), (0,)), ((ROOT, (1, ())), (0,)), ((ROOT, (1, (0, 0))), (0,)), ((ROOT, (1, (0, 1, 0))), (0,)),
    ((ROOT, None), (0,)), ((ROOT, "root"), (0,)), ((ROOT, ROOT + ROOT), (0,)), ((ROOT,) * 101, (0,)),
    ((ROOT,), (0, 0) * 9 + (0,)), ((ROOT, (2, (0, 0) * 9 + (0,))), (0,)), ((ROOT,), (0, 0) * 8),
)

# What is no table by its form, each wrong in one part.
NO_TABLES = (
    None, (), [], 0, list(TABLE), TABLE[:2], TABLE + ((),), ((),), (list(TABLE[0]),) + TABLE[1:], put(TABLE, 1, [TABLE[1][0]]),
    put(TABLE, 2, None), put(TABLE, 0, TABLE[0][::-1]), put(TABLE, 2, TABLE[2] + TABLE[2][-1:]),
    put(TABLE, 0, TABLE[0][:1] + (((0,), (0,), 1, 1),) + TABLE[0][1:]), put(TABLE, 1, TABLE[2][::-1]), put(TABLE, 1, TABLE[0]),
    put(TABLE, 0, TABLE[2]), put(TABLE, 1, ((4, (0,), (1,), 1, 0),)), put(TABLE, 1, ((True, (0,), (1,), 1, 0),)),
    put(TABLE, 1, ((2, (3,), (1,), 1, 0),)), put(TABLE, 1, ((2, (0,), (0, 0), 1, 0),)), put(TABLE, 1, ((2, (0,), [1], 1, 0),)),
    put(TABLE, 1, ((2, (0,), (1,), -1, 0),)), put(TABLE, 1, ((2, (0,), (1,), 1, BIG + 1),)),
    put(TABLE, 1, ((2, (0,), (1,), BIG + 1, 0),)), put(TABLE, 1, ((2, (0,), (1,), True, 0),)),
    put(TABLE, 1, ((2, (0,), (1,), 1, False),)), put(TABLE, 1, ((2, (0,), (1,), 1),)), put(TABLE, 1, ((2, (0,), (1,), 1, 0, 0),)),
    put(TABLE, 1, ([2, (0,), (1,), 1, 0],)), put(TABLE, 0, TABLE[0] + (((2,), (2,), 0, 2),)), put(TABLE, 0, (None,)),
)


class Papers(unittest.TestCase):

    def wrong(self, word, claim, paper):
        self.assertEqual(first_fault(HOUSE, (word, claim, paper)), ("paper",))
        self.assertEqual(judge.first_fault(HOUSE, (word, claim, paper)), ("paper",))

    def formed(self, word, claim, paper):
        """See that a paper is of its form, whatever faults it has."""
        fault = first_fault(HOUSE, (word, claim, paper))
        self.assertNotEqual(fault, ("paper",))
        self.assertEqual(fault, judge.first_fault(HOUSE, (word, claim, paper)))


class Certificates(Papers):

    def test_no_triples(self):
        for value in ((), (1,), ("shown", CAN), ("shown", CAN, COURSE, ()), ["shown", CAN, COURSE], None, CAN, "abc", {}):
            wanted = ("claim",) if value == CAN[:3] else ("form",)
            self.assertEqual(first_fault(HOUSE, value), wanted)

    def test_form_claim_and_paper_in_their_order(self):
        self.assertEqual(first_fault(HOUSE, ("seen", ("can",), None)), ("claim",))
        self.assertEqual(first_fault(HOUSE, (None, None, None)), ("claim",))
        self.assertEqual(first_fault(HOUSE, [None, None, None]), ("form",))
        self.assertEqual(first_fault(HOUSE, ("seen", CAN, COURSE)), ("paper",))
        self.assertEqual(first_fault(HOUSE, ("shown", list(CAN), None)), ("claim",))

    def test_other_words(self):
        for word, claim, paper in certificates():
            for other in (None, "", "Shown", "show", "shown ", 0, True, ("shown",), ["broken"], {}, "less", claim[0], claim):
                self.wrong(other, claim, paper)

    def test_the_other_word(self):
        for word, claim, paper in certificates():
            other = "broken" if word == "shown" else "shown"
            self.assertEqual(
                first_fault(HOUSE, (other, claim, paper)) == ("paper",),
                judge.read_paper(HOUSE, other, claim, paper) is None,
            )

    def test_strange_values(self):
        for value in strange_values():
            for word, claim, paper in certificates():
                self.wrong(word, claim, value)
                if isinstance(paper, tuple):
                    self.wrong(word, claim, paper + (value,))
                    for k in range(len(paper)):
                        other = put(paper, k, value)
                        fault = first_fault(HOUSE, (word, claim, other))
                        self.assertEqual(fault, judge.first_fault(HOUSE, (word, claim, other)))

    def test_lists_and_parts_too_many_or_too_few(self):
        for word, claim, paper in certificates():
            self.wrong(word, claim, list(paper))
            self.wrong(word, claim, (paper,))
            if claim[0] == "never" and word == "broken":
                continue
            self.wrong(word, claim, paper + ((),))
            self.wrong(word, claim, paper[:-1])
            self.wrong(word, claim, paper[1:])
            for k, part in enumerate(paper):
                if isinstance(part, tuple):
                    self.wrong(word, claim, put(paper, k, list(part)))

    def test_changes_of_every_part(self):
        rng = random.Random(23)
        heads = []
        for word, claim, paper in certificates():
            others = [0, 1, (0,), ROOT, COURSE, TABLE, (), "less", "more"]
            some = [(at, change) for at in places_in(paper) for change in changes(part_at(paper, at), others)]
            for at, change in rng.sample(some, min(len(some), 500)):
                certificate = (word, claim, exchanged(paper, at, change))
                fault = first_fault(HOUSE, certificate)
                self.assertEqual(fault, judge.first_fault(HOUSE, certificate))
                heads.append(None if fault is None else fault[0])
        self.assertGreater(heads.count("paper"), 4000)
        self.assertGreater(len(heads) - heads.count("paper"), 500)


class Courses(Papers):

    def test_wherever_a_course_stands(self):
        for course in NO_COURSES:
            self.wrong("shown", CAN, course)
            self.wrong("broken", FALSE[3], course)
            self.wrong("shown", LEAST, (course, TABLE))
            self.wrong("broken", LEAST, ("less", course))
            self.wrong("broken", PAIRS, ("lacks", course))
            self.wrong("shown", COMES, (put(WAY, 1, (0, course)), TABLE))
            self.wrong("broken", COMES, ("less", put(WAY, 1, (0, course))))
            self.wrong("broken", FALSE[9], put(WAY, 1, (0, course)))
            self.wrong("shown", LOST, (((0, course),), ()))
            self.wrong("broken", WITHDRAW, ("more", ((0, course),), ()))

    def test_rows_and_links_at_their_bounds(self):
        rules = ((3, ((0,),), ((0,),)), (1, ((0,),), ((0,),)))
        claim = ("can", rules, 3, (0,), (0,))
        for many in (99, 100):
            self.assertIsNone(first_fault(HOUSE, ("shown", claim, ((ROOT,) * many, (0,)))))
        self.wrong("shown", claim, ((ROOT,) * 101, (0,)))
        for many in (8, 9):
            links = many - 1
            self.assertIsNone(first_fault(HOUSE, ("shown", claim, ((ROOT,), (0, 0) * links + (0,)))))
            self.assertIsNone(first_fault(HOUSE, ("shown", claim, ((ROOT, (1, (0, 1) * links + (0,))), (0,)))))
        self.wrong("shown", claim, ((ROOT,), (0, 0) * 9 + (0,)))
        self.wrong("shown", claim, ((ROOT, (1, (0, 1) * 9 + (0,))), (0,)))

    def test_rules_that_there_are_not(self):
        self.formed("shown", CAN, (LEDGER, (2, 0, 2)))
        self.wrong("shown", CAN, (LEDGER, (2, 1, 2)))
        self.wrong("shown", put(CAN, 1, ()), COURSE)
        self.formed("shown", put(CAN, 1, RULES * 2), (LEDGER, (2, 1, 2)))


class Tables(Papers):

    def test_wherever_a_table_stands(self):
        for table in NO_TABLES:
            self.wrong("broken", FALSE[0], table)
            self.wrong("shown", SAFE, table)
            self.wrong("shown", NEVER, table)
            self.wrong("shown", LEAST, (COURSE, table))
            self.wrong("broken", LEAST, ("more", table))
            self.wrong("shown", PAIRS, (table, LEDGER, ((2,),) * 5))
            self.wrong("broken", PAIRS, ("wrong", 0, table))
            self.wrong("shown", COMES, (WAY, table))
            self.wrong("broken", COMES, ("more", table))
            self.wrong("shown", WITHDRAW, ((0,), (table,), (ROOT,), (), (), ()))
            self.wrong("broken", WITHDRAW, ("less", (0,), (table,), (ROOT,), ()))
            self.wrong("broken", FALSE[-1], ((0,), (table,), (ROOT,), ()))
            self.wrong("shown", LOST, ((), ((0, (), table),)))

    def test_numbers_at_their_bounds(self):
        for n in (0, BIG - 1, BIG):
            self.formed("shown", SAFE, put(TABLE, 1, ((2, (0,), (1,), n, n),)))
            self.formed("shown", SAFE, put(TABLE, 0, TABLE[0][:4] + (((2,), (2,), n, n),)))
        for n in (-1, BIG + 1):
            self.wrong("shown", SAFE, put(TABLE, 0, TABLE[0][:4] + (((2,), (2,), n, 0),)))
            self.wrong("shown", SAFE, put(TABLE, 0, TABLE[0][:4] + (((2,), (2,), 0, n),)))

    def test_without_rows(self):
        self.assertEqual(first_fault(HOUSE, ("shown", SAFE, WRONG_TABLE)), ("start",))


class Others(Papers):

    def test_least(self):
        for word in ("lesser", "", None, 0, "more", "lacks"):
            self.wrong("broken", LEAST, (word, COURSE))
        self.wrong("broken", LEAST, ("less", TABLE))
        self.wrong("broken", LEAST, ("more", COURSE))
        self.wrong("broken", LEAST, (COURSE, TABLE))
        self.wrong("shown", LEAST, ("less", COURSE))
        self.wrong("broken", LEAST, ("less", COURSE, TABLE))

    def test_pairs(self):
        for index in NO_INTEGERS + (5, 6):
            self.wrong("broken", PAIRS, ("wrong", index, TABLE))
        self.wrong("broken", put(PAIRS, 3, ()), ("wrong", 0, TABLE))
        for index in range(5):
            self.formed("broken", PAIRS, ("wrong", index, TABLE))
        for word in ("lack", "Wrong", None, ()):
            self.wrong("broken", PAIRS, (word, COURSE))
            self.wrong("broken", PAIRS, (word, 0, TABLE))
        self.wrong("broken", PAIRS, ("lacks", 0, TABLE))
        self.wrong("broken", PAIRS, ("wrong", TABLE))

    def test_other_numbers_of_chains(self):
        for many in range(8):
            test = self.formed if many == 5 else self.wrong
            test("shown", PAIRS, (TABLE, LEDGER, ((2,),) * many))
        for many in range(3):
            task = ((), (WISH,), (5,))
            paper = ((), (), LEDGER, ((2,),) * many)
            test = self.formed if many == 1 else self.wrong
            test("broken", ("lost", RULES, task), paper)
            test("broken", ("withdraw", RULES, task, 1), ("less",) + paper)
            test("shown", ("withdraw", RULES, task, 1), paper + ((), ()))

    def test_chains_of_their_ledger(self):
        for chain in ((3,), (-1,), (True,), (), (2, 0), (2, 1, 2), [2], None, (0, 0) * 9 + (0,), ((2,),), (2, 0, 3)):
            self.wrong("shown", PAIRS, (TABLE, LEDGER, put(((2,),) * 5, 4, chain)))
            self.wrong("broken", ("lost", RULES, ((), (WISH,), (5,))), ((), (), LEDGER, (chain,)))
        self.formed("shown", PAIRS, (TABLE, (ROOT,) * 4, ((3,),) * 5))
        for ledger in ((), None, [ROOT], (ROOT,) * 101, ((1, (0,)), ROOT), (ROOT, (1, (1,)))):
            self.wrong("shown", PAIRS, (TABLE, ledger, ((0,),) * 5))
            self.wrong("broken", FALSE[-1], ((0,), (BARE,), ledger, ()))
            self.wrong("shown", WITHDRAW, ((0,), (BARE,), ledger, (), (), ()))

    def test_ways(self):
        entry = WAY[1]
        self.formed("shown", COMES, (WAY, TABLE))
        for way in (
            (), WAY[:2], WAY + ((),), list(WAY), None, put(WAY, 1, list(entry)), put(WAY, 1, entry + ((),)), put(WAY, 1, entry[:1]),
            put(WAY, 1, (1, entry[1])), put(WAY, 1, (-1, entry[1])), put(WAY, 1, (False, entry[1])), put(WAY, 1, None),
            put(WAY, 0, []), put(WAY, 0, 0), put(WAY, 1, ((0,), entry[1])), put(WAY, 1, ("0", entry[1])), put(WAY, 2, "stay"),
        ):
            self.wrong("shown", COMES, (way, TABLE))
            self.wrong("broken", COMES, ("less", way))
            self.wrong("broken", ("never", RULES, TREE, 3, ((2,),)), way)

    def test_an_entry_for_each_thing_of_the_path(self):
        tree = tuple((2, k - 1) for k in range(200))
        for thing in (0, 1, 2, 100, 199):
            claim = ("never", RULES, tree, thing, ((0,),))
            for many in (0, 1, 2, 3, thing, thing + 1, thing + 2):
                test = self.formed if many == thing + 1 else self.wrong
                test("broken", claim, ((),) * many)
            self.assertIsNone(first_fault(HOUSE, ("broken", claim, ((),) * (thing + 1))))
        # The path is that of the thing, not that of the tree.
        self.formed("broken", ("never", RULES, TREE, 1, ((0,),)), ((),))
        self.formed("broken", ("never", RULES, TREE, 2, ((0,),)), ((), ()))

    def test_withdrawals(self):
        rules, task = RULES * 3, ((LEAK,), (), (1, 1, 1))
        claim = ("lost", rules, task)
        for withdrawal in ((), (0,), (2,), (0, 1), (0, 2), (0, 1, 2)):
            self.formed("broken", claim, (withdrawal, (BARE,), (ROOT,), ()))
        for withdrawal in ((3,), (-1,), (1, 0), (0, 0), (True,), [0], None, 0, (0, 1, 2, 3), ((0,),), ("0",), (0, 1, 1)):
            self.wrong("broken", claim, (withdrawal, (BARE,), (ROOT,), ()))
            self.wrong("broken", ("withdraw", rules, task, 3), ("less", withdrawal, (BARE,), (ROOT,), ()))
            self.wrong("shown", ("withdraw", rules, task, 3), (withdrawal, (BARE,), (ROOT,), (), (), ()))
            self.wrong("shown", ("lost", rules, (task[0], (WISH,), task[2])), ((), ((0, withdrawal, BARE),)))

    def test_withdrawals_by_how_many_rules_there_are(self):
        for many in range(7):
            rules, task = RULES * many, ((LEAK,), (), (1,) * many)
            claim = ("lost", rules, task)
            for index in range(8):
                test = self.formed if index < many else self.wrong
                test("broken", claim, ((index,), (BARE,), (ROOT,), ()))
                test("broken", ("withdraw", rules, task, 3), ("less", (index,), (BARE,), (ROOT,), ()))
                test("shown", ("lost", rules, (task[0], (WISH,), task[2])), ((), ((0, (index,), BARE),)))

    def test_other_numbers_of_tables(self):
        for leaks in range(4):
            task = ((LEAK,) * leaks, (), (5,))
            for many in range(5):
                test = self.formed if many == leaks else self.wrong
                test("broken", ("lost", RULES, task), ((0,), (BARE,) * many, (ROOT,), ()))
                test("shown", ("withdraw", RULES, task, 5), ((0,), (BARE,) * many, (ROOT,), (), (), ()))
        self.wrong("broken", ("lost", RULES, TASK), ((0,), [BARE], (ROOT,), ()))
        self.wrong("broken", ("lost", RULES, TASK), ((0,), BARE, (ROOT,), ()))

    def test_reasons(self):
        leak, lack = (0, COURSE), (0, (), BARE)
        for many in (0, 1, 2, 19, 20):
            self.formed("shown", LOST, ((leak,) * many, (lack,) * many))
        for many in (21, 22, 100):
            self.wrong("shown", LOST, ((leak,) * many, (lack,)))
            self.wrong("shown", LOST, ((leak,), (lack,) * many))
            self.wrong("broken", ("withdraw", RULES, HOPELESS, 5), ("more", (leak,) * many, (lack,)))
        for some in ([leak], None, leak, ((1, COURSE),), ((-1, COURSE),), ((False, COURSE),), (leak + (0,),), (leak[:1],), (list(leak),)):
            self.wrong("shown", LOST, (some, (lack,)))
        for some in (
            [lack], None, lack, ((1, (), BARE),), ((-1, (), BARE),), ((False, (), BARE),), (lack + (0,),), (lack[:2],),
            (list(lack),), ((0, [], BARE),), ((0, (1,), BARE),), ((0, (0, 0), BARE),), ((0, None, BARE),),
        ):
            self.wrong("shown", LOST, ((leak,), some))
        for reason in (None, (), [0, COURSE], (1, COURSE), (True, COURSE), (0, NO_COURSES[-1]), (0, TABLE), lack):
            self.wrong("shown", LOST, ((leak, reason), (lack,)))
        for reason in (None, (), [0, (), BARE], (1, (), BARE), (0, (1,), BARE), (0, (), NO_TABLES[-1]), leak):
            self.wrong("shown", LOST, ((leak,), (lack, reason)))
        self.wrong("shown", LOST, ((leak,), (lack,), ()))
        self.wrong("shown", LOST, ((leak,),))

    def test_indices_of_leaks_and_wishes_that_there_are_not(self):
        task = ((LEAK,) * 2, (WISH,) * 3, (5,))
        claim = ("lost", RULES, task)
        for index in range(-1, 5):
            test = self.formed if 0 <= index < 2 else self.wrong
            test("shown", claim, (((index, COURSE),), ()))
            test = self.formed if 0 <= index < 3 else self.wrong
            test("shown", claim, ((), ((index, (), BARE),)))
        self.wrong("shown", ("lost", RULES, ((), (), (5,))), (((0, COURSE),), ()))
        self.wrong("shown", ("lost", RULES, ((), (), (5,))), ((), ((0, (), BARE),)))

    def test_words_of_withdraw(self):
        fix = ((0,), (BARE,), (ROOT,), ())
        self.formed("broken", WITHDRAW, ("less",) + fix)
        self.formed("broken", WITHDRAW, ("more", (), ()))
        for word in ("Less", None, "more", "lost", 0):
            self.wrong("broken", WITHDRAW, (word,) + fix)
        for word in ("less", None, "mores", ()):
            self.wrong("broken", WITHDRAW, (word, (), ()))
        self.wrong("broken", WITHDRAW, fix)
        self.wrong("broken", WITHDRAW, fix + ((), ()))
        self.wrong("shown", WITHDRAW, fix)
        self.wrong("shown", WITHDRAW, ("less",) + fix)


class AheadOfEveryOtherFault(Papers):

    def test_behind_parts_with_faults(self):
        self.wrong("shown", LEAST, (WRONG_COURSE, NO_TABLES[-1]))
        self.wrong("shown", COMES, (((), (), ()), NO_TABLES[-1]))
        self.wrong("shown", PAIRS, (WRONG_TABLE, LEDGER, ((0,),) * 4 + ((9,),)))
        self.wrong("shown", PAIRS, (WRONG_TABLE, (ROOT, (3, (0,))), ((0,),) * 5))
        self.wrong("broken", CAN, TABLE[:2] + (TABLE[2] + (None,),))
        self.wrong("shown", CAN, (WRONG_COURSE[0] + ((0, (5,)),), (1,)))
        self.wrong("shown", CAN, (WRONG_COURSE[0], (9,)))
        bad = ((), (WRONG_TABLE,), WRONG_COURSE[0], (), ((0, WRONG_COURSE),))
        self.wrong("shown", WITHDRAW, bad + ((None,),))
        self.wrong("shown", WITHDRAW, put(bad, 4, ((0, WRONG_COURSE), (1, COURSE))) + ((),))
        self.wrong("shown", LOST, (((0, WRONG_COURSE),), ((0, (), WRONG_TABLE), (0, (0,), NO_TABLES[-1]))))
        way = ((0, WRONG_COURSE), (0, COURSE), (0, NO_COURSES[-1]))
        self.wrong("broken", ("never", RULES, TREE, 3, ((2,),)), way)

    def test_what_decide_returns_is_of_its_form(self):
        for word, claim, paper in [decide(HOUSE, claim) for claim in TRUE + FALSE]:
            self.assertIsNotNone(judge.read_paper(HOUSE, word, claim, paper))


if __name__ == "__main__":
    unittest.main()
