"""Points 2, 9 and 10, and the interface, movedfolders/tables.py."""

import copy
import itertools
import random
import unittest

from movedfolders.houses import contents
from movedfolders.kinds import come_to
from movedfolders.pairs import place_pairs, thing_pairs
from movedfolders.tables import fewest, is_closed, least_table, table_fault
from tests import oracles
from tests.samples import (
    CUBE, CUBE_RULES, ONE_BY_ONE, ONE_BY_ONE_RULES, SAMPLES, STAIRS, STAIRS_RULES, TRAP, TRAP_RULES, changes,
    disturbed, exchanged, part_at, places_in, random_samples,
)
from tests.support import HOUSE, NO_INTEGERS, RULES, TWO, put, strange_values

BIG = 10 ** 70
EVERY = tuple((item, ((0,), (1,), (2,)), ((0,), (1,), (2,))) for item in range(4))

# A content of 3 takes a path of three folders; 5 and 6 take one folder each.
STEP_UP = (("when", 0, 2, 2, ("set", 0, 3)), ("when", 0, 1, 1, ("set", 0, 2)), ("when", 0, 0, 0, ("set", 0, 1)))
DEEP = ((8,), (0,), (STEP_UP, (("set", 0, 5),), (("set", 0, 6),)))
IN_TWO_MOVES = ((3, ((0,),), ((3,),)), (3, ((3,),), ((5,),)))
IN_THREE_MOVES = ((3, ((0,),), ((1,),)), (3, ((1,),), ((6,),)), (3, ((6,),), ((5,),)))


def full_table(house, costs=((0, 0), (0, 0), (0, 0))):
    """Return a table with every row that there can be, with one cost for each part."""
    pairs = list(itertools.product(contents(house), repeat=2))
    rows = [(item,) + pair for item in range(len(house[2]) + 1) for pair in pairs]
    return tuple(tuple(key + cost for key in keys) for keys, cost in zip((pairs, rows, rows), costs))


def with_cost(table, part, key, cost):
    """Return a table with another cost in the row with this key, or with this row put in."""
    rows = {row[:-2]: row for row in table[part]}
    rows[key] = key + cost
    return put(table, part, tuple(sorted(rows.values())))


def without(table, part, *keys):
    return put(table, part, tuple(row for row in table[part] if row[:-2] not in keys))


def without_row(table, part, k):
    return put(table, part, table[part][:k] + table[part][k + 1:])


class LeastTable(unittest.TestCase):

    def test_written_out(self):
        zero, one, two = (0,), (1,), (2,)
        still = ((zero, zero, 0, 0), (one, one, 0, 1), (two, two, 0, 2))
        things = tuple((item,) + row for item in range(4) for row in still)
        self.assertEqual(least_table(HOUSE, ()), (still, (), things))
        places = ((zero, zero, 0, 0), (zero, two, 1, 2), (one, one, 0, 1), (one, two, 1, 3), (two, two, 0, 2))
        things = [(item,) + row for item in range(4) for row in places] + [(2, zero, one, 1, 1)]
        self.assertEqual(least_table(HOUSE, RULES), (places, ((2, zero, one, 1, 0),), tuple(sorted(things))))

    def test_a_house_in_which_nothing_comes_about(self):
        table = least_table(TWO, ())
        row = ((1, 3), (1, 3), 0, 0)
        self.assertEqual(table, ((row,), (), ((0,) + row, (1,) + row, (2,) + row)))

    def test_just_moved_into_what_comes_about_alone(self):
        rules = ((2, ((0,),), ((0,), (1,), (3,))), (2, ((1,), (3,)), ((0,),)), (2, ((3,),), ((1,),)))
        house = ((4,), (0,), HOUSE[2])
        self.assertEqual(come_to(house), ((0,), (1,), (2,)))
        moved = least_table(house, rules)[1]
        self.assertEqual(moved, (
            (2, (0,), (0,), 1, 0), (2, (0,), (1,), 1, 0), (2, (1,), (0,), 1, 1), (2, (1,), (1,), 2, 1),
            (2, (2,), (0,), 2, 2), (2, (2,), (1,), 2, 2),
        ))

    def test_against_the_words_of_the_document(self):
        for house, rules in list(SAMPLES) + [(CUBE, CUBE_RULES), (HOUSE, EVERY)] + random_samples(120):
            found = least_table(house, rules)
            self.assertEqual(found, oracles.table_of(house, rules))
            self.assertEqual({part.__class__ for part in found}, {tuple})
            for part, longer in zip(found, (0, 1, 1)):
                self.assertEqual({(row.__class__, len(row)) for row in part} - {(tuple, 4 + longer)}, set())
                keys = [row[:-2] for row in part]
                self.assertTrue(all(low < high for low, high in zip(keys, keys[1:])))

    def test_it_has_just_the_pairs(self):
        for house, rules in list(SAMPLES) + random_samples(40):
            places, _, things = least_table(house, rules)
            self.assertEqual(tuple(row[:2] for row in places), place_pairs(house, rules))
            for item in range(len(house[2]) + 1):
                found = tuple(row[1:3] for row in things if row[0] == item)
                self.assertEqual(found, thing_pairs(house, rules, item))

    def test_rules_in_another_order_twice_or_divided_change_nothing(self):
        for house, rules in list(SAMPLES) + random_samples(40):
            wanted = least_table(house, rules)
            for order in itertools.islice(itertools.permutations(rules), 1, 120, 17):
                self.assertEqual(least_table(house, order), wanted)
            self.assertEqual(least_table(house, rules + rules), wanted)
            parts = [(item, (z,), (d,)) for item, froms, to in rules for z in froms for d in to]
            self.assertEqual(least_table(house, tuple(parts)), wanted)

    def test_with_fewer_rules_no_pair_more_and_no_cost_less(self):
        for house, rules in list(SAMPLES) + random_samples(40):
            table = least_table(house, rules)
            for k in range(len(rules)):
                fewer = least_table(house, rules[:k] + rules[k + 1:])
                for part, less in zip(table, fewer):
                    costs = {row[:-2]: row[-2:] for row in part}
                    for row in less:
                        self.assertLessEqual(costs[row[:-2]], row[-2:])


class Fewest(unittest.TestCase):

    def test_pairs_without_moves(self):
        self.assertEqual(fewest(HOUSE, RULES, 3, (0,), (0,)), (0, 0))
        self.assertEqual(fewest(HOUSE, RULES, 3, (1,), (1,)), (0, 1))
        self.assertEqual(fewest(HOUSE, RULES, 3, (2,), (2,)), (0, 2))
        self.assertEqual(fewest(DEEP, (), 0, (3,), (3,)), (0, 3))

    def test_by_one_rule(self):
        self.assertEqual(fewest(HOUSE, RULES, 2, (0,), (1,)), (1, 1))
        self.assertEqual(fewest(DEEP, IN_TWO_MOVES, 3, (0,), (3,)), (1, 3))

    def test_no_thing_pair(self):
        self.assertIsNone(fewest(HOUSE, RULES, 3, (0,), (1,)))
        self.assertIsNone(fewest(HOUSE, RULES, 2, (2,), (0,)))
        self.assertIsNone(fewest(HOUSE, (), 2, (0,), (1,)))
        self.assertIsNone(fewest(DEEP, IN_TWO_MOVES, 3, (4,), (4,)))
        self.assertIsNone(fewest(TWO, (), 0, (0, 0), (0, 0)))

    def test_moves_count_ahead_of_things(self):
        self.assertEqual(fewest(DEEP, IN_TWO_MOVES, 3, (0,), (5,)), (2, 4))
        self.assertEqual(fewest(DEEP, IN_THREE_MOVES, 3, (0,), (5,)), (3, 3))
        for rules in (IN_TWO_MOVES + IN_THREE_MOVES, IN_THREE_MOVES + IN_TWO_MOVES):
            self.assertEqual(fewest(DEEP, rules, 3, (0,), (5,)), (2, 4))

    def test_of_as_many_moves_the_fewest_things(self):
        short = IN_THREE_MOVES[:1] + ((3, ((1,),), ((5,),)),)
        self.assertEqual(fewest(DEEP, short, 3, (0,), (5,)), (2, 2))
        for rules in (IN_TWO_MOVES + short, short + IN_TWO_MOVES):
            self.assertEqual(fewest(DEEP, rules, 3, (0,), (5,)), (2, 2))

    def test_things_are_counted_each_time(self):
        self.assertEqual(fewest(TRAP, TRAP_RULES, 5, (0,), (2,)), (3, 5))
        self.assertEqual(fewest(ONE_BY_ONE, ONE_BY_ONE_RULES, 5, (0,), (7,)), (5, 5))
        back = ONE_BY_ONE_RULES + ((5, ((7,),), ((0,),)),)
        self.assertEqual(fewest(ONE_BY_ONE, back, 5, (7,), (6,)), (5, 5))
        # The leaf needs a place with 1 two times, and each time a folder counts.
        again = ((3, ((0,),), ((1,),)), (3, ((5,),), ((6,),)), (3, ((1,),), ((5,),)), (3, ((6,),), ((1,),)))
        self.assertEqual(fewest(DEEP, again, 3, (1,), (6,)), (2, 3))
        self.assertEqual(fewest(DEEP, again, 3, (5,), (1,)), (2, 3))

    def test_against_the_words_of_the_document(self):
        for house, rules in list(SAMPLES) + random_samples(25):
            _, things = oracles.least_costs(house, rules)
            for item in range(len(house[2]) + 1):
                for a, b in itertools.product(contents(house), repeat=2):
                    found = fewest(house, rules, item, a, b)
                    self.assertEqual(found, things.get((item, a, b)))
                    self.assertIn(found.__class__, (tuple, None.__class__))


class Closed(unittest.TestCase):

    def check(self, house, rules, table, wanted=True):
        before = copy.deepcopy(table)
        self.assertIs(is_closed(house, rules, table), wanted)
        self.assertEqual(table, before)

    def test_least_tables(self):
        for house, rules in list(SAMPLES) + [(CUBE, CUBE_RULES), (HOUSE, EVERY)] + random_samples(60):
            self.check(house, rules, least_table(house, rules))

    def test_least_tables_of_more_rules_and_of_fewer(self):
        for house, rules in list(SAMPLES) + random_samples(60):
            table = least_table(house, rules)
            for k in range(len(rules)):
                fewer = rules[:k] + rules[k + 1:]
                self.check(house, fewer, table)
                other = least_table(house, fewer)
                if other != table:
                    self.check(house, rules, other, False)

    def test_any_one_row_left_out(self):
        for house, rules in list(SAMPLES) + [(HOUSE, EVERY)] + random_samples(25):
            table = least_table(house, rules)
            for part in range(3):
                for k in range(len(table[part])):
                    self.check(house, rules, without_row(table, part, k), False)

    def test_any_one_row_that_costs_more(self):
        for house, rules in list(SAMPLES) + [(HOUSE, EVERY)] + random_samples(10):
            table = least_table(house, rules)
            for part in range(3):
                for row in table[part]:
                    moves, things = row[-2:]
                    for cost in ((moves, things + 1), (moves + 1, 0), (moves + 1, things), (BIG, BIG)):
                        self.check(house, rules, with_cost(table, part, row[:-2], cost), False)

    def test_full_tables(self):
        for house, rules in ((HOUSE, RULES), (HOUSE, EVERY), (HOUSE, ()), (TWO, SAMPLES[4][1]), (STAIRS, STAIRS_RULES)):
            self.check(house, rules, full_table(house))
            self.check(house, rules, full_table(house, ((0, 0), (1, 0), (0, 0))))
            self.check(house, (), full_table(house, ((0, 0), (BIG, BIG), (0, 0))))
            self.check(house, rules, full_table(house, ((0, 1), (1, 0), (0, 0))), False)

    def test_empty_parts(self):
        for house, rules in SAMPLES:
            self.check(house, rules, ((), (), ()), False)
            places, moved, things = least_table(house, rules)
            self.check(house, rules, ((), moved, things), False)
            self.check(house, rules, (places, moved, ()), False)
            self.check(house, (), (least_table(house, ())[0], (), least_table(house, ())[2]))

    def test_lower_costs_that_fit(self):
        table = least_table(HOUSE, RULES)
        cheap = tuple(tuple(row[:-2] + (0, 0) for row in part) for part in table)
        self.check(HOUSE, RULES, cheap)
        moves = tuple(tuple(row[:-1] + (0,) for row in part) for part in table)
        self.check(HOUSE, RULES, moves)
        # A leaf goes nowhere and makes nothing: its rows may cost less, the others stay.
        self.check(HOUSE, RULES, with_cost(table, 2, (3, (0,), (2,)), (0, 0)))
        self.check(HOUSE, RULES, with_cost(table, 2, (3, (0,), (2,)), (1, 1)))

    def test_rows_put_in(self):
        table = least_table(HOUSE, RULES)
        self.check(HOUSE, RULES, with_cost(table, 2, (3, (0,), (1,)), (0, 0)))
        self.check(HOUSE, RULES, with_cost(table, 2, (3, (0,), (1,)), (BIG, BIG)))
        self.check(HOUSE, RULES, with_cost(table, 1, (3, (1,), (0,)), (BIG, BIG)), False)
        self.check(HOUSE, RULES, with_cost(table, 1, (3, (0,), (0,)), (0, 0)))
        self.check(HOUSE, RULES, with_cost(table, 1, (3, (0,), (0,)), (BIG, BIG)))
        self.check(HOUSE, RULES, with_cost(table, 0, (((0,), (1,))), (0, 0)), False)
        # A place pair put in must be in things for each item, and what comes of it too.
        more = with_cost(table, 0, ((0,), (1,)), (5, 5))
        for item in range(4):
            more = with_cost(more, 2, (item, (0,), (1,)), (1, 1) if item == 2 else (5, 5))
        self.check(HOUSE, RULES, more)
        self.check(HOUSE, RULES, with_cost(more, 2, (3, (0,), (1,)), (5, 6)), False)

    def test_contents_that_come_about_nowhere_may_stand_in_rows(self):
        house = ((4,), (0,), HOUSE[2])
        table = least_table(house, RULES)
        self.check(house, RULES, with_cost(table, 2, (3, (3,), (3,)), (0, 0)))
        self.check(house, RULES, with_cost(table, 1, (3, (3,), (3,)), (0, 0)))
        self.check(house, RULES, with_cost(table, 2, (3, (4,), (3,)), (0, 0)), False)
        self.check(HOUSE, RULES, with_cost(least_table(HOUSE, RULES), 2, (3, (3,), (3,)), (0, 0)), False)


class EachDemand(unittest.TestCase):
    """Tables in which one demand of point 10 alone is not met."""

    def only(self, house, rules, table, word):
        self.assertEqual({fault[0] for fault in oracles.all_table_faults(house, rules, table)}, {word})
        self.assertTrue(oracles.has_form(house, table))
        self.assertIs(is_closed(house, rules, table), False)

    def right(self, house, rules, table):
        self.assertEqual(oracles.all_table_faults(house, rules, table), [])
        self.assertIs(is_closed(house, rules, table), True)

    def test_start(self):
        self.only(HOUSE, (), with_cost(full_table(HOUSE), 0, ((0,), (0,)), (0, 1)), "start")
        # No kind makes 0, so nothing else asks for the pair of the root.
        house = ((3,), (0,), ((("set", 0, 1),), (("set", 0, 2),)))
        self.right(house, (), full_table(house))
        self.only(house, (), without(full_table(house), 0, ((0,), (0,))), "start")
        self.only(house, (), with_cost(full_table(house), 0, ((0,), (0,)), (1, 0)), "start")
        other = (house[0], (1,), house[2])
        self.right(other, (), without(full_table(other), 0, ((0,), (0,))))

    def test_thing(self):
        table = full_table(HOUSE, ((0, 0), (1, 0), (0, 0)))
        for item in range(4):
            for a, b in itertools.product(contents(HOUSE), repeat=2):
                self.only(HOUSE, EVERY, with_cost(table, 2, (item, a, b), (0, 1)), "thing")
        still = put(table, 1, ())
        self.only(HOUSE, (), without(still, 2, (3, (1,), (2,))), "thing")
        self.right(HOUSE, EVERY, with_cost(table, 0, ((1,), (2,)), (0, 1)))
        costly = with_cost(still, 0, ((1,), (2,)), (0, 1))
        self.right(HOUSE, (), with_cost(costly, 2, (3, (1,), (2,)), (0, 1)))
        self.only(HOUSE, (), with_cost(costly, 2, (3, (1,), (2,)), (0, 2)), "thing")
        self.only(HOUSE, (), with_cost(costly, 2, (3, (1,), (2,)), (1, 0)), "thing")

    def test_move(self):
        table = full_table(HOUSE, ((0, 0), (1, 0), (0, 0)))
        self.right(HOUSE, EVERY, table)
        for item in range(4):
            for a, d in itertools.product(contents(HOUSE), repeat=2):
                self.only(HOUSE, EVERY, without(table, 1, (item, a, d)), "move")
                self.only(HOUSE, EVERY, with_cost(table, 1, (item, a, d), (1, 1)), "move")
                self.right(HOUSE, EVERY, with_cost(table, 1, (item, a, d), (0, BIG)))

    def test_move_asks_for_rules_of_the_item_from_and_to(self):
        table = full_table(HOUSE, ((0, 0), (1, 0), (0, 0)))
        for rule in EVERY:
            for item in range(4):
                lacking = without(table, 1, (item, (0,), (1,)))
                if item == rule[0]:
                    self.only(HOUSE, (rule,), lacking, "move")
                else:
                    self.right(HOUSE, (rule,), lacking)
        rules = ((3, ((0,), (2,)), ((1,),)),)
        self.only(HOUSE, rules, without(table, 1, (3, (1,), (1,))), "move")
        self.right(HOUSE, rules, without(table, 1, (3, (1,), (0,)), (3, (1,), (2,))))

    def test_move_asks_for_rows_that_end_in_from(self):
        house = ((2,), (0,), ((("set", 0, 1),),))
        rules = ((1, ((1,),), ((0,),)),)
        table = least_table(house, ())
        self.right(house, (), table)
        # The leaf that began in 0 is in 0 alone, and the one that began in 1 goes to 0.
        self.only(house, rules, table, "move")
        self.assertEqual(oracles.all_table_faults(house, rules, table), [("move", 3, 0, 0)])
        moved = with_cost(table, 1, (1, (1,), (0,)), (1, 1))
        self.only(house, rules, moved, "land")
        self.right(house, rules, with_cost(moved, 2, (1, (1,), (0,)), (1, 1)))

    def test_move_asks_for_first_parts_of_pairs_of_the_item(self):
        house = ((4,), (0,), HOUSE[2])
        rules = ((2, ((0,),), ((3,),)), (3, ((0,),), ((3,),)))
        table = least_table(house, rules)
        self.assertEqual(table[1], ())
        self.right(house, rules, table)
        asked = with_cost(table, 2, (3, (3,), (1,)), (9, 9))
        self.only(house, rules, asked, "move")
        self.right(house, rules[:1], asked)
        # As a second part, the content does not count.
        self.right(house, rules, with_cost(table, 2, (3, (1,), (3,)), (9, 9)))
        moved = with_cost(asked, 1, (3, (0,), (3,)), (1, 0))
        self.only(house, rules, moved, "land")
        self.right(house, rules, with_cost(moved, 2, (3, (0,), (1,)), (10, 9)))

    def test_land(self):
        table = least_table(ONE_BY_ONE, ONE_BY_ONE_RULES)
        self.right(ONE_BY_ONE, ONE_BY_ONE_RULES, table)
        for row in table[2]:
            if row[0] == 5 and row[1] != row[2]:
                more = (row[3], row[4] + 1)
                self.assertIn("land", [f[0] for f in oracles.all_table_faults(
                    ONE_BY_ONE, ONE_BY_ONE_RULES, with_cost(table, 2, row[:3], more))])
        last = ((5, (6,), (7,)), (5, (4,), (7,)), (5, (0,), (7,)))
        for key in last:
            moves, things = {row[:3]: row[3:] for row in table[2]}[key]
            self.only(ONE_BY_ONE, ONE_BY_ONE_RULES, with_cost(table, 2, key, (moves, things + 1)), "land")
            self.only(ONE_BY_ONE, ONE_BY_ONE_RULES, with_cost(table, 2, key, (moves + 1, 0)), "land")
            self.only(ONE_BY_ONE, ONE_BY_ONE_RULES, without(table, 2, key), "land")

    def test_land_asks_for_rows_of_the_same_item_that_begin_there(self):
        table = least_table(HOUSE, ())
        for item in range(4):
            moved = with_cost(table, 1, (item, (0,), (1,)), (3, 4))
            self.only(HOUSE, (), moved, "land")
            landed = with_cost(moved, 2, (item, (0,), (1,)), (3, 5))
            # A folder of kind 2 makes a place of it that goes from 0 to 2.
            if item != 2:
                self.right(HOUSE, (), landed)
                self.right(HOUSE, (), with_cost(moved, 2, (item, (0,), (1,)), (0, 0)))
            self.assertIs(is_closed(HOUSE, (), with_cost(moved, 2, (item, (0,), (1,)), (3, 6))), False)
        self.right(((4,), (0,), HOUSE[2]), (), with_cost(table, 1, (3, (0,), (3,)), (0, 0)))

    def test_place(self):
        table = full_table(HOUSE)
        self.only(HOUSE, (), without(table, 0, ((2,), (1,))), "place")
        self.only(HOUSE, (), with_cost(table, 0, ((2,), (1,)), (0, 2)), "place")
        self.right(HOUSE, (), with_cost(table, 0, ((2,), (1,)), (0, 1)))
        # What a leaf comes to makes no place.
        table = least_table(HOUSE, ())
        for item in range(4):
            more = with_cost(table, 2, (item, (1,), (0,)), (7, 7))
            if item == 2:
                self.only(HOUSE, (), more, "place")
            else:
                self.right(HOUSE, (), more)
        # A folder of kind 2 makes 2 of 1 and 0 of 0.
        made = with_cost(with_cost(table, 2, (2, (1,), (0,)), (7, 7)), 0, ((2,), (0,)), (7, 8))
        self.assertEqual({f[0] for f in oracles.all_table_faults(HOUSE, (), made)}, {"thing"})
        for item in (0, 1, 2, 3):
            made = with_cost(made, 2, (item, (2,), (0,)), (7, 8))
        self.only(HOUSE, (), made, "place")


class NoTables(unittest.TestCase):

    def check(self, value, house=HOUSE, rules=RULES):
        self.assertIs(is_closed(house, rules, value), False)

    def test_strange_values(self):
        table = least_table(HOUSE, RULES)
        for value in strange_values():
            self.check(value)
            for part in range(3):
                self.check(put(table, part, value))
                for k in (0, len(table[part]) - 1):
                    self.check(put(table, part, put(table[part], k, value)))
                    for at in range(len(table[part][k])):
                        right = isinstance(value, int) and not isinstance(value, bool) and value in (0, 1)
                        if not right:
                            self.check(put(table, part, put(table[part], k, put(table[part][k], at, value))))

    def test_no_triples(self):
        table = least_table(HOUSE, RULES)
        for value in ((), table[:2], table + ((),), table + table, list(table), (table,), table[0], (table,) * 3):
            self.check(value)

    def test_lists(self):
        table = full_table(HOUSE)
        self.assertIs(is_closed(HOUSE, EVERY, table), True)
        for part in range(3):
            self.check(put(table, part, list(table[part])))
            for k in (0, 4, len(table[part]) - 1):
                row = table[part][k]
                self.check(put(table, part, put(table[part], k, list(row))))
                for at, inner in enumerate(row):
                    if isinstance(inner, tuple):
                        self.check(put(table, part, put(table[part], k, put(row, at, list(inner)))))

    def test_rows_too_long_and_too_short(self):
        table = full_table(HOUSE)
        for part in range(3):
            for k in (0, 4, len(table[part]) - 1):
                row = table[part][k]
                for other in (row[:-1], row[1:], row + (0,), (0,) + row, (0, 0) + row, (), row + row):
                    self.check(put(table, part, put(table[part], k, other)), HOUSE, ())

    def test_rows_that_do_not_ascend(self):
        table = full_table(HOUSE)
        for part in range(3):
            rows = table[part]
            self.check(put(table, part, rows[::-1]))
            for k in range(len(rows) - 1):
                self.check(put(table, part, rows[:k] + (rows[k + 1], rows[k]) + rows[k + 2:]))
                self.check(put(table, part, rows[:k] + (rows[k],) + rows[k:]))
            self.check(put(table, part, rows + rows[-1:]))
            # Nor are there two rows with other costs for the same parts.
            for cost in ((0, 1), (1, 0), (1, 1), (BIG, BIG)):
                self.check(put(table, part, rows[:1] + (rows[0][:-2] + cost,) + rows[1:]), HOUSE, ())
                self.check(put(table, part, rows + (rows[-1][:-2] + cost,)), HOUSE, ())

    def test_two_rows_of_which_nothing_asks_for_either(self):
        house = ((3,), (0,), ((("set", 0, 1),),))
        table = with_cost(full_table(house), 0, ((2,), (2,)), (1, 1))
        self.assertIs(is_closed(house, (), table), True)
        for cost in ((1, 1), (1, 2), (2, 0), (0, 9)):
            rows = sorted(table[0] + (((2,), (2,)) + cost,))
            self.check(put(table, 0, tuple(rows)), house, ())

    def test_numbers(self):
        house, rules = ONE_BY_ONE, ONE_BY_ONE_RULES
        table = with_cost(least_table(house, rules), 2, (5, (7,), (0,)), (BIG, BIG))
        self.assertIs(is_closed(house, (), with_cost(least_table(house, ()), 2, (5, (7,), (0,)), (BIG, BIG))), True)
        self.assertIs(is_closed(house, (), with_cost(least_table(house, ()), 2, (5, (7,), (0,)), (0, BIG))), True)
        wrong = (BIG + 1, -1, 10 ** 79, -BIG, True, False, None, "0", "1", (0,), [0], (), {}, {0: 0})
        least = least_table(house, ())
        for number in wrong:
            for cost in ((number, 0), (0, number)):
                self.check(with_cost(least, 2, (5, (7,), (0,)), cost), house, ())
                self.check(with_cost(least, 1, (5, (7,), (5,)), cost), house, ())
        self.assertIs(is_closed(house, rules, table), False)
        full = full_table(HOUSE)
        for part in range(3):
            for k in range(len(full[part])):
                for number in wrong:
                    row = full[part][k]
                    self.check(put(full, part, put(full[part], k, row[:-1] + (number,))), HOUSE, ())
                    self.check(put(full, part, put(full[part], k, row[:-2] + (number, 0))), HOUSE, ())

    def test_contents_of_no_place(self):
        table = full_table(HOUSE)
        for part, first in ((0, 0), (1, 1), (2, 1)):
            rows = table[part]
            for content in [(part,) for part in NO_INTEGERS + (3,)] + [(), (0, 0), 2, None, "2", [2]]:
                for at in (first, first + 1):
                    self.check(put(table, part, rows[:-1] + (put(rows[-1], at, content),)), HOUSE, ())
        self.check(full_table(((4,), (0,), HOUSE[2])))
        self.check(full_table(TWO))

    def test_items_that_there_are_not(self):
        table = full_table(HOUSE)
        for part in (1, 2):
            rows = table[part]
            self.assertIs(is_closed(HOUSE, (), table), True)
            for item in NO_INTEGERS + (4, 5):
                self.check(put(table, part, rows + ((item,) + rows[-1][1:],)), HOUSE, ())
                self.check(put(table, part, ((item,) + rows[0][1:],) + rows), HOUSE, ())
            # True and False would be in order here.
            self.check(put(table, part, put(rows, 0, (False,) + rows[0][1:])), HOUSE, ())
            self.check(put(table, part, put(rows, 9, (True,) + rows[9][1:])), HOUSE, ())

    def test_tables_of_other_houses_and_rules(self):
        for at, (house, rules) in enumerate(SAMPLES[2:]):
            table = least_table(house, rules)
            for other, others in SAMPLES[2:at + 2] + SAMPLES[at + 3:]:
                self.check(table, other, others)


class AnyTables(unittest.TestCase):

    def agree(self, house, rules, value):
        wanted = oracles.has_form(house, value)
        if wanted:
            faults = oracles.all_table_faults(house, rules, value)
            self.assertEqual(table_fault(house, rules, value), faults[0] if faults else None)
            wanted = not faults
        self.assertIs(is_closed(house, rules, value), wanted)
        return wanted

    def test_a_little_wrong(self):
        rng = random.Random(31)
        found = []
        for house, rules in list(SAMPLES) * 3 + random_samples(60):
            table = least_table(house, rules)
            for times in (1, 1, 1, 1, 2, 2, 3):
                found.append(self.agree(house, rules, disturbed(rng, table, times)))
        self.assertGreater(found.count(True), 10)
        self.assertGreater(found.count(False), 300)

    def test_other_costs_and_other_rows(self):
        rng = random.Random(37)
        found = []
        for house, rules in list(SAMPLES) * 3 + [(HOUSE, EVERY)] * 20 + random_samples(60):
            for table in (least_table(house, rules), full_table(house), full_table(house, ((0, 1), (1, 1), (0, 1)))):
                for _ in range(3):
                    part = rng.randrange(3)
                    rows = list(table[part]) or [(0,) + (contents(house)[0],) * 2 + (0, 0)]
                    row = rng.choice(rows)
                    key = row[:-2] if rng.random() < 0.7 else row[:-3] + (rng.choice(contents(house)),)
                    cost = (rng.choice((row[-2], 0, 1, 2, 3)), rng.choice((row[-1], 0, 1, 2, 3)))
                    table = with_cost(table, part, key, cost)
                    found.append(self.agree(house, rules, table))
        self.assertGreater(found.count(True), 100)
        self.assertGreater(found.count(False), 100)

    def test_every_change_of_every_part_of_a_small_table(self):
        house, rules = ((2,), (0,), ((("set", 0, 1),),)), ((1, ((0,),), ((1,),)),)
        table = least_table(house, rules)
        found = []
        for at in places_in(table):
            for change in changes(part_at(table, at), [(0,), (1,), 2]):
                found.append(self.agree(house, rules, exchanged(table, at, change)))
        self.assertIn(True, found)
        self.assertIn(False, found)


if __name__ == "__main__":
    unittest.main()
