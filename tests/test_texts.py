"""Points 2 and 20, and the interface, movedfolders/texts.py."""

import copy
import itertools
import random
import unittest

from movedfolders.errors import InvalidTree, ParseError
from movedfolders.houses import contents, require_house
from movedfolders.rules import require_rules
from movedfolders.texts import format_house, format_rules, format_tree, parse_house, parse_rules, parse_tree
from movedfolders.trees import require_tree
from tests.samples import (
    CUBE, CUBE_RULES, SAMPLES, TWO_RULES, random_house, random_rules, random_samples, random_tree, renumbered,
)
from tests.support import HOUSE, RULES, THREE, TWO

HOUSE_TEXT = "cells 3\nbegin 0\nkind\nset 0 0\nkind\nraise 0 1\nkind\nwhen 0 1 1 set 0 2\n"
RULES_TEXT = "rule 2\nfrom 0\nto 1\n"
TREE = ((0, -1), (1, -1), (2, 0), (3, 2))
TREE_TEXT = "thing 0 in root\nthing 1 in root\nthing 2 in 0\nthing 3 in 2\n"

# No number, wherever one stands.
NO_NUMBERS = (
    "", "00", "01", "+1", "-1", "-0", "1.", "1.0", "0x1", "1_0", "x", "one", "1e0", "'1'", "(0)", "\u0661", "\u00b2", "\uff11",
    "1\t", "\t1", "1\r", "1\u00a0", "999999999999999999999", "1" * 5000, "True", "None",
)


class Texts(unittest.TestCase):

    def house_fails(self, text, line):
        with self.assertRaises(ParseError) as caught:
            parse_house(text)
        self.assertEqual(caught.exception.line, line, text[:200])

    def rules_fail(self, text, line, house=HOUSE):
        with self.assertRaises(ParseError) as caught:
            parse_rules(text, house)
        self.assertEqual(caught.exception.line, line, text[:200])

    def tree_fails(self, text, line, house=HOUSE):
        with self.assertRaises(ParseError) as caught:
            parse_tree(text, house)
        self.assertEqual(caught.exception.line, line, text[:200])


class Formats(Texts):

    def test_the_example(self):
        self.assertEqual(format_house(HOUSE), HOUSE_TEXT)
        self.assertEqual(format_rules(RULES), RULES_TEXT)
        self.assertEqual(format_tree(TREE), TREE_TEXT)

    def test_nothing(self):
        self.assertEqual((format_rules(()), format_tree(())), ("", ""))
        self.assertEqual((parse_rules("", HOUSE), parse_tree("", HOUSE)), ((), ()))
        self.assertEqual(format_house(((2,), (1,), ((),))), "cells 2\nbegin 1\nkind\n")

    def test_each_step(self):
        steps = (("set", 0, 1), ("raise", 1, 3), ("lower", 0, 0), ("copy", 1, 0), ("when", 1, 0, 3, ("copy", 0, 1)))
        house = require_house(((2, 4), (1, 3), (steps, (), (("when", 0, 0, 1, ("set", 1, 2)),))))
        text = (
            "cells 2 4\nbegin 1 3\nkind\nset 0 1\nraise 1 3\nlower 0 0\ncopy 1 0\nwhen 1 0 3 copy 0 1\nkind\nkind\n"
            "when 0 0 1 set 1 2\n"
        )
        self.assertEqual(format_house(house), text)
        self.assertEqual(parse_house(text), house)

    def test_several_contents_of_several_cells(self):
        text = "rule 2\nfrom 0 1 or 1 3\nto 1 0\nrule 0\nfrom 1 3\nto 1 3\nrule 2\nfrom 1 3\nto 0 0 or 1 3\n"
        self.assertEqual(format_rules(TWO_RULES), text)
        self.assertEqual(parse_rules(text, TWO), TWO_RULES)

    def test_the_lines_that_the_document_tells(self):
        house = parse_house("cells 2 3\nbegin 0 0\nkind\nset 0 1\nraise 0 1\nlower 0 1\ncopy 0 1\nwhen 0 0 1 set 1 1\n")
        steps = (("set", 0, 1), ("raise", 0, 1), ("lower", 0, 1), ("copy", 0, 1), ("when", 0, 0, 1, ("set", 1, 1)))
        self.assertEqual(house, ((2, 3), (0, 0), (steps,)))
        rules = parse_rules("rule 1\nfrom 0 0 or 0 1\nto 1 0\n", house)
        self.assertEqual(rules, ((1, ((0, 0), (0, 1)), ((1, 0),)),))
        self.assertEqual(parse_tree("thing 1 in 1\nthing 0 in root\n", house), ((1, 1), (0, -1)))

    def test_back_again(self):
        rng = random.Random(36)
        some = list(SAMPLES) + [(CUBE, CUBE_RULES), (THREE, ())] + random_samples(150)
        for house, rules in some + [(house, random_rules(rng, house)) for house, _ in some]:
            tree = random_tree(rng, house, rng.choice((0, 1, 2, 10, 50)))
            before = copy.deepcopy((house, rules, tree))
            texts = (format_house(house), format_rules(rules), format_tree(tree))
            self.assertEqual((house, rules, tree), before)
            self.assertEqual((parse_house(texts[0]), parse_rules(texts[1], house), parse_tree(texts[2], house)), before)
            self.assertEqual(house, before[0])
            for text in texts:
                self.assertIs(text.__class__, str)
                self.assertTrue(text == "" or text.endswith("\n"))

    def test_two_hundred_things_numbered_anyhow(self):
        rng = random.Random(37)
        for house, _ in SAMPLES:
            tree = random_tree(rng, house, 200)
            self.assertEqual(parse_tree(format_tree(tree), house), tree)
        deep = tuple((2, k - 1) for k in range(200))
        self.assertEqual(parse_tree(format_tree(deep), HOUSE), deep)
        back = renumbered(deep, list(range(200))[::-1])
        self.assertEqual(parse_tree(format_tree(back), HOUSE), back)

    def test_the_largest_of_each(self):
        kinds = ((("when", 0, 0, 7, ("lower", 0, 7)),) * 6,) * 5
        house = ((8,), (7,), kinds)
        rules = ((5, contents(house), contents(house)),) * 6
        self.assertEqual(parse_house(format_house(house)), house)
        self.assertEqual(parse_rules(format_rules(rules), house), rules)

    def test_by_names(self):
        self.assertEqual(format_house(house=HOUSE), HOUSE_TEXT)
        self.assertEqual(format_rules(rules=RULES), RULES_TEXT)
        self.assertEqual(format_tree(tree=TREE), TREE_TEXT)
        self.assertEqual(parse_house(text=HOUSE_TEXT), HOUSE)
        self.assertEqual(parse_rules(house=HOUSE, text=RULES_TEXT), RULES)
        self.assertEqual(parse_tree(house=HOUSE, text=TREE_TEXT), TREE)
        self.assertEqual(parse_tree(text=TREE_TEXT, house=HOUSE), TREE)


class TextsOfHouses(Texts):

    def changed(self, at, line, text=HOUSE_TEXT):
        lines = text.split("\n")
        return "\n".join(lines[:at] + [line] + lines[at + 1:])

    def test_cells(self):
        for sizes in ("2", "8", "2 2", "2 4", "4 2", "2 3", "3 2", "2 2 2"):
            begin = " ".join("1" for _ in sizes.split())
            house = parse_house(f"cells {sizes}\nbegin {begin}\nkind\n")
            self.assertEqual(house[0], tuple(map(int, sizes.split())))
        for line in (
            "cells", "cells ", "cells 1", "cells 9", "cells 0", "cells 3 3", "cells 2 5", "cells 8 2", "cells 2 2 3",
            "cells 2 2 2 2", "cells 2 1", "Cells 3", "cell 3", "3", "", " cells 3", "cells 3 ", "cells  3", "cells 2  2",
            "cells 2,2", "cells\t3", "cells 3\t", "begin 0", "kind", "cells 3 or 3", "cells cells 3", "cells 3\r",
        ):
            self.house_fails(self.changed(0, line), 0)
            self.house_fails(line + "\n", 0)
        for word in NO_NUMBERS:
            if "\n" not in word:
                self.house_fails(self.changed(0, "cells " + word), 0)
                self.house_fails(self.changed(0, "cells 2 " + word), 0)

    def test_begin(self):
        for value in range(3):
            self.assertEqual(parse_house(self.changed(1, f"begin {value}"))[1], (value,))
        for line in (
            "begin", "begin ", "begin 3", "begin 0 0", "begin  0", "begin 0 ", " begin 0", "Begin 0", "begins 0", "0", "", "kind",
            "cells 3", "begin 8", "begin\t0", "begin 0\r", "begin begin",
        ):
            self.house_fails(self.changed(1, line), 1)
        for word in NO_NUMBERS:
            self.house_fails(self.changed(1, "begin " + word), 1)
        two = format_house(TWO)
        for line in ("begin 1", "begin 2 3", "begin 1 4", "begin 1 3 0", "begin 1  3", "begin 3 1"):
            self.house_fails(self.changed(1, line, two), 1)

    def test_kinds(self):
        for line in ("Kind", "kinds", "kind ", " kind", "kind 0", "", "kind\r", "kind\t", "begin 0", "cells 3"):
            for at in (2, 4, 6):
                self.house_fails(self.changed(at, line), at)
            self.house_fails(HOUSE_TEXT + line + "\n", 8)
        head = "cells 3\nbegin 0\n"
        for many in range(1, 6):
            self.assertEqual(len(parse_house(head + "kind\n" * many)[2]), many)
        self.house_fails(head + "kind\n" * 6, 7)
        self.house_fails(head + "kind\nset 0 0\n" * 6, 12)
        # A step ahead of the first kind.
        self.house_fails(head + "set 0 0\nkind\n", 2)

    def test_steps(self):
        head = "cells 3\nbegin 0\nkind\n"
        for many in range(7):
            self.assertEqual(parse_house(head + "set 0 1\n" * many)[2], ((("set", 0, 1),) * many,))
        self.house_fails(head + "set 0 1\n" * 7, 9)
        self.house_fails(head + "set 0 1\n" * 6 + "kind\n" + "set 0 1\n" * 7, 16)
        for line in (
            "set 0 3", "set 1 0", "set 0", "set", "set 0 1 1", "set 0 1 0 1", "set  0 1", "set 0  1", "set 0 1 ", " set 0 1",
            "Set 0 1", "put 0 1", "0 1", "raise 0 3", "raise 1 1", "lower 0 3", "lower 0", "copy 0 0", "copy 0 1", "copy 1 0",
            "when 0 1 1", "when 0 1 1 set", "when 0 1 1 set 0", "when 0 1 1 set 0 3", "when 0 1 1 set 1 0", "when 0 2 1 set 0 0",
            "when 0 0 3 set 0 0", "when 1 0 0 set 0 0", "when 0 1 1 when 0 1 1 set 0 2", "when 0 1 1 when 0 1", "when 0 1 1 set 0 2 0",
            "when 0 1 set 0 2", "when 0 1 1 put 0 2", "when 0 1 1  set 0 2", "when 0 1 1 copy 0 0", "when 0 1 1 2 0 2", "when",
            "when 0 1 1 kind", "set 0 1 or 0 2", "set 0 1\r", "set\t0 1", "when 0 1 1 set 0 2\r", "when 0 -1 1 set 0 2",
        ):
            self.house_fails(head + line + "\n", 3)
            self.house_fails(head + "set 0 1\n" + line + "\nkind\n", 4)
        for word in NO_NUMBERS:
            for line in (
                f"set {word} 0", f"set 0 {word}", f"when {word} 1 1 set 0 2", f"when 0 {word} 1 set 0 2", f"when 0 0 {word} set 0 2",
                f"when 0 1 1 set {word} 2", f"when 0 1 1 set 0 {word}",
            ):
                self.house_fails(head + line + "\n", 3)

    def test_steps_of_several_cells(self):
        head = "cells 2 4\nbegin 0 0\nkind\n"
        for line in ("copy 0 1", "copy 1 0", "set 1 3", "when 1 3 3 copy 0 1", "when 0 0 1 raise 1 2"):
            self.assertEqual(len(parse_house(head + line + "\n")[2][0]), 1)
        for line in ("copy 0 0", "copy 1 1", "copy 0 2", "copy 2 0", "set 0 2", "set 1 4", "when 0 0 2 set 0 0", "when 1 2 4 set 0 0"):
            self.house_fails(head + line + "\n", 3)

    def test_too_early(self):
        self.house_fails("", 0)
        lines = HOUSE_TEXT.split("\n")
        for many in (1, 2):
            self.house_fails("\n".join(lines[:many]) + "\n", many)
        for many in range(3, 9):
            parse_house("\n".join(lines[:many]) + "\n")

    def test_in_the_middle_of_a_line_or_behind_the_last_line_end(self):
        for many in range(len(HOUSE_TEXT)):
            cut = HOUSE_TEXT[:many]
            if cut and cut.endswith("\n") and cut.count("\n") > 2:
                parse_house(cut)
            else:
                self.house_fails(cut, cut.count("\n"))
        for more in ("kind", " ", "x", "set 0 0", "\r", "#"):
            self.house_fails(HOUSE_TEXT + more, 8)
        self.house_fails(HOUSE_TEXT + "\n", 8)
        self.house_fails("\n" + HOUSE_TEXT, 0)
        self.house_fails(HOUSE_TEXT[:-1] + "x", 7)

    def test_the_first_line_that_does_not_fit(self):
        self.house_fails("cells 3\nbegin 3\nset\n", 1)
        self.house_fails("cells 1\nbegin 3\nset\n", 0)
        self.house_fails("cells 3\nbegin 0\nkind\nset 0 0\nkind\nset 0 9\nx", 5)
        self.house_fails("cells 3\nbegin 0\nx", 2)

    def test_other_line_ends(self):
        self.house_fails(HOUSE_TEXT.replace("\n", "\r\n"), 0)
        self.house_fails(HOUSE_TEXT.replace("\n", "\r"), 0)
        for end in ("\x0b", "\x0c", "\x1c", "\x85", "\u2028", "\u2029", ";", " "):
            self.house_fails(HOUSE_TEXT.replace("\n", end), 0)
            self.house_fails("cells 3\nbegin 0" + end + "kind\n", 1)

    def test_lines_exchanged_left_out_and_said_twice(self):
        lines = HOUSE_TEXT.split("\n")[:-1]
        self.house_fails("\n".join([lines[1], lines[0]] + lines[2:]) + "\n", 0)
        self.house_fails("\n".join([lines[0], lines[2], lines[1]] + lines[3:]) + "\n", 1)
        self.house_fails("\n".join(lines[1:]) + "\n", 0)
        self.house_fails("\n".join(lines[:1] + lines[2:]) + "\n", 1)
        self.house_fails("\n".join(lines[:2] + lines[3:]) + "\n", 2)
        self.house_fails("\n".join(lines[:1] + lines) + "\n", 1)
        self.house_fails("\n".join(lines[:2] + lines[1:]) + "\n", 2)
        self.house_fails(HOUSE_TEXT * 2, 8)


class TextsOfRules(Texts):

    def test_items(self):
        for item in range(4):
            self.assertEqual(parse_rules(f"rule {item}\nfrom 0\nto 1\n", HOUSE)[0][0], item)
        for line in (
            "rule", "rule ", "rule 4", "rule 2 2", "rule  2", "rule 2 ", " rule 2", "Rule 2", "rules 2", "2", "", "from 0", "to 1",
            "rule\t2", "rule 2\r", "rule two", "rule root",
        ):
            self.rules_fail(f"{line}\nfrom 0\nto 1\n", 0)
            self.rules_fail(f"{RULES_TEXT}{line}\nfrom 0\nto 1\n", 3)
        for word in NO_NUMBERS:
            self.rules_fail(f"rule {word}\nfrom 0\nto 1\n", 0)
        self.rules_fail("rule 3\nfrom 0 0\nto 1 1\n", 0, TWO)

    def test_from_and_to(self):
        for some in ("0", "1", "2", "0 or 1", "0 or 2", "1 or 2", "0 or 1 or 2"):
            wanted = tuple((int(word),) for word in some.split(" or "))
            self.assertEqual(parse_rules(f"rule 2\nfrom {some}\nto 1\n", HOUSE), ((2, wanted, ((1,),)),))
            self.assertEqual(parse_rules(f"rule 2\nfrom 1\nto {some}\n", HOUSE), ((2, ((1,),), wanted),))
        for some in (
            "", " ", "3", "0 0", "0 or 0", "1 or 0", "0 or 2 or 1", "0 or 3", "0 or", "or 0", "0 or or 1", "0  or 1", "0 or  1",
            " 0", "0 ", "0 or ", " or 0", "0 1", "0 and 1", "0,1", "0 OR 1", "0 or 1 or", "or", "0or1", "0\tor 1", "0 or 1\r", "0 or 1 2",
        ):
            self.rules_fail(f"rule 2\nfrom {some}\nto 1\n", 1)
            self.rules_fail(f"rule 2\nfrom 1\nto {some}\n", 2)
            self.rules_fail(f"{RULES_TEXT}rule 2\nfrom 1\nto {some}\n", 5)
        for word in NO_NUMBERS:
            self.rules_fail(f"rule 2\nfrom {word}\nto 1\n", 1)
            self.rules_fail(f"rule 2\nfrom 0 or {word}\nto 1\n", 1)
            self.rules_fail(f"rule 2\nfrom 1\nto {word}\n", 2)
        for line in ("from", "From 0", "form 0", "0", "", "to 0", " from 0", "from  0", "rule 2", "from0", "from\t0"):
            self.rules_fail(f"rule 2\n{line}\nto 1\n", 1)
        for line in ("to", "To 0", "into 0", "0", "", "from 0", " to 0", "to  0", "rule 2", "to0", "to\t0", "too 0"):
            self.rules_fail(f"rule 2\nfrom 0\n{line}\n", 2)

    def test_contents_of_several_cells(self):
        for some in ("0", "0 0 0", "0 4", "2 0", "0 0 or 0", "0 0 or 0 0", "0 1 or 0 0", "0 0 or 0 1 or 0 1", "0 or 0 0", "0 0 0 1"):
            self.rules_fail(f"rule 2\nfrom {some}\nto 1 0\n", 1, TWO)
            self.rules_fail(f"rule 2\nfrom 1 0\nto {some}\n", 2, TWO)
        every = " or ".join(" ".join(map(str, content)) for content in contents(TWO))
        self.assertEqual(parse_rules(f"rule 2\nfrom {every}\nto {every}\n", TWO), ((2, contents(TWO), contents(TWO)),))

    def test_six_and_one_more(self):
        for many in range(7):
            self.assertEqual(parse_rules(RULES_TEXT * many, HOUSE), RULES * many)
        self.rules_fail(RULES_TEXT * 7, 18)
        self.rules_fail(RULES_TEXT * 6 + "rule 2\n", 18)
        self.rules_fail(RULES_TEXT * 6 + "\n", 18)
        self.rules_fail(RULES_TEXT * 6 + "rule 2", 18)

    def test_too_early_and_in_the_middle_of_a_line(self):
        text = RULES_TEXT * 2
        for many in range(len(text)):
            cut = text[:many]
            if cut == "" or cut.endswith("\n") and cut.count("\n") % 3 == 0:
                self.assertEqual(len(parse_rules(cut, HOUSE)), cut.count("\n") // 3)
            else:
                self.rules_fail(cut, cut.count("\n"))
        self.rules_fail("rule 2\n", 1)
        self.rules_fail("rule 2\nfrom 0\n", 2)
        self.rules_fail(" ", 0)
        self.rules_fail("x", 0)

    def test_lines_exchanged_left_out_and_said_twice(self):
        lines = ["rule 2", "from 0", "to 1"]
        for order in itertools.permutations(range(3)):
            if order != (0, 1, 2):
                wrong = [k for k in range(3) if order[k] != k][0]
                self.rules_fail("\n".join(lines[k] for k in order) + "\n", wrong)
        self.rules_fail("from 0\nto 1\n", 0)
        self.rules_fail("rule 2\nto 1\n", 1)
        self.rules_fail("rule 2\nfrom 0\nrule 2\n", 2)
        self.rules_fail("rule 2\nrule 2\nfrom 0\nto 1\n", 1)
        self.rules_fail("rule 2\nfrom 0\nfrom 0\nto 1\n", 2)
        self.rules_fail(RULES_TEXT + "to 1\n", 3)
        self.rules_fail(RULES_TEXT + "\n", 3)

    def test_other_line_ends(self):
        self.rules_fail(RULES_TEXT.replace("\n", "\r\n"), 0)
        self.rules_fail(RULES_TEXT.replace("\n", "\r"), 0)
        self.rules_fail("rule 2\nfrom 0\u2028to 1\n", 1)


class TextsOfTrees(Texts):

    def test_items(self):
        for item in range(4):
            self.assertEqual(parse_tree(f"thing {item} in root\n", HOUSE), ((item, -1),))
        for word in NO_NUMBERS + ("4", "root", "in"):
            self.tree_fails(f"thing {word} in root\n", 0)
            self.tree_fails(f"thing 0 in root\nthing {word} in 0\n", 1)
        self.tree_fails("thing 3 in root\n", 0, TWO)

    def test_lines(self):
        for line in (
            "", "thing", "thing 1", "thing 1 in", "thing 1 in ", "thing 1 in 0 0", "thing  1 in 0", "thing 1  in 0", "thing 1 in  0",
            " thing 1 in 0", "thing 1 in 0 ", "Thing 1 in 0", "things 1 in 0", "thing 1 at 0", "thing 1 In 0", "1 in 0", "thing 1 0",
            "thing in 0", "thing 1 in Root", "thing 1 in root root", "thing 1 in -1", "thing 1 in 0\r", "thing\t1 in 0", "rule 1",
        ):
            self.tree_fails(f"thing 0 in root\n{line}\nthing 0 in root\n", 1)
            self.tree_fails(f"thing 0 in root\n{line}\n", 1)
        for word in NO_NUMBERS:
            self.tree_fails(f"thing 0 in root\nthing 0 in {word}\n", 1)

    def test_two_hundred_and_one_more(self):
        for many in (199, 200):
            self.assertEqual(len(parse_tree("thing 0 in root\n" * many, HOUSE)), many)
        for many in (201, 202, 1000):
            self.tree_fails("thing 0 in root\n" * many, 200)
        self.tree_fails("thing 0 in root\n" * 200 + "thing 0 in root", 200)
        self.tree_fails("thing 0 in root\n" * 200 + "x\n", 200)

    def test_a_folder_that_comes_later(self):
        self.assertEqual(parse_tree("thing 3 in 1\nthing 0 in root\n", HOUSE), ((3, 1), (0, -1)))
        text = "thing 3 in 199\n" + "thing 0 in root\n" * 199
        self.assertEqual(parse_tree(text, HOUSE)[0], (3, 199))
        # There can be none with this index.
        for above in (200, 201, 999999999, 10 ** 20):
            self.tree_fails(f"thing 3 in {above}\n" + "thing 0 in root\n" * 199, 0)
            self.tree_fails(f"thing 0 in root\nthing 3 in {above}\n", 1)

    def test_a_folder_that_does_not_come(self):
        self.tree_fails("thing 3 in 1\n", 1)
        self.tree_fails("thing 3 in 3\nthing 0 in root\nthing 0 in root\n", 3)
        self.tree_fails("thing 0 in root\nthing 3 in 199\n", 2)
        self.tree_fails("thing 0 in 4\nthing 0 in 0\nthing 3 in 1\nthing 2 in root\n", 4)

    def test_a_folder_that_is_a_leaf(self):
        self.tree_fails("thing 3 in root\nthing 0 in 0\n", 1)
        self.tree_fails("thing 0 in root\nthing 3 in 0\nthing 1 in 1\nthing 0 in root\n", 2)
        # Told by the later one of both.
        self.tree_fails("thing 0 in 1\nthing 3 in root\nthing 0 in root\n", 1)
        self.tree_fails("thing 0 in 2\nthing 0 in root\nthing 3 in root\nthing 9 in root\n", 2)
        self.tree_fails("thing 0 in 199\n" + "thing 0 in root\n" * 198 + "thing 3 in root\n", 199)
        self.tree_fails("thing 3 in 0\n", 0)
        self.tree_fails("thing 0 in root\nthing 3 in 1\n", 1)

    def test_rounds_are_told_at_the_end(self):
        self.tree_fails("thing 0 in 0\n", 1)
        self.tree_fails("thing 0 in 0\nthing 3 in root\nthing 1 in root\n", 3)
        self.tree_fails("thing 0 in 1\nthing 1 in 0\n", 2)
        self.tree_fails("thing 0 in 1\nthing 1 in 2\nthing 1 in 0\nthing 3 in root\n", 4)
        self.tree_fails("thing 0 in 1\nthing 1 in 0\nthing 3 in root\nthing 2 in 2\n", 3)
        self.tree_fails("thing 0 in 0\nthing 1 in root\nx", 2)
        self.tree_fails("thing 0 in 0\nx\n", 1)
        self.tree_fails("".join(f"thing 2 in {(k + 1) % 200}\n" for k in range(200)), 200)

    def test_in_the_middle_of_a_line(self):
        for many in range(len(TREE_TEXT)):
            cut = TREE_TEXT[:many]
            if cut == "" or cut.endswith("\n"):
                self.assertEqual(parse_tree(cut, HOUSE), TREE[:cut.count("\n")])
            else:
                self.tree_fails(cut, cut.count("\n"))
        for more in (" ", "x", "thing 0 in root", "\r"):
            self.tree_fails(TREE_TEXT + more, 4)
        self.tree_fails(TREE_TEXT + "\n", 4)
        self.tree_fails("\n" + TREE_TEXT, 0)
        self.tree_fails("x", 0)

    def test_other_line_ends(self):
        self.tree_fails(TREE_TEXT.replace("\n", "\r\n"), 0)
        self.tree_fails(TREE_TEXT.replace("\n", "\r"), 0)
        self.tree_fails("thing 0 in root\u2028thing 0 in root\n", 0)

    def test_lines_exchanged(self):
        self.assertEqual(parse_tree("thing 1 in root\nthing 0 in root\n", HOUSE), ((1, -1), (0, -1)))
        lines = TREE_TEXT.split("\n")[:-1]
        text = "\n".join(lines[1:3] + lines[:1] + lines[3:]) + "\n"
        self.assertEqual(parse_tree(text, HOUSE), ((1, -1), (2, 0), (0, -1), (3, 2)))
        # The last one lies in what has become a leaf.
        self.tree_fails("\n".join(lines[3:] + lines[:3]) + "\n", 3)
        self.tree_fails("\n".join(lines[::-1]) + "\n", 1)


class Anyhow(Texts):

    def test_changed_a_little(self):
        """What is read is what was written, and a line that does not fit is none of those that fit before it."""
        rng = random.Random(38)
        signs = "0123459 \nabx-or\r"
        fails = 0
        for _ in range(1500):
            house = random_house(rng)
            for text, parse, write in (
                (format_house(house), parse_house, format_house),
                (format_rules(random_rules(rng, house)), lambda one: parse_rules(one, house), format_rules),
                (format_tree(random_tree(rng, house, 5)), lambda one: parse_tree(one, house), format_tree),
            ):
                at = rng.randrange(len(text) + 1)
                other = text[:at] + rng.choice(("", rng.choice(signs))) + text[at + rng.choice((0, 1)):]
                try:
                    found = parse(other)
                except ParseError as error:
                    fails += 1
                    self.assertLessEqual(error.line, other.count("\n"))
                    self.assertGreaterEqual(error.line, text[:at].count("\n") if write is not format_tree else 0)
                else:
                    self.assertEqual(write(found), other)
        self.assertGreater(fails, 1000)

    def test_trees_line_by_line(self):
        """The line of a wrong tree, by all trees that go on from its first lines, up to three things."""
        house = ((2,), (0,), ((),))
        pairs = [(item, above) for item in (0, 1) for above in (-1, 0, 1, 2)]
        right, begun = set(), {()}
        for many in range(4):
            for tree in itertools.product(pairs, repeat=many):
                if all(above < many for _, above in tree):
                    try:
                        require_tree(house, tree)
                    except InvalidTree:
                        rounds = not any(above != -1 and tree[above][0] == 1 for _, above in tree)
                    else:
                        right.add(tree)
                        rounds = True
                    if rounds:
                        begun |= {tree[:k] for k in range(many + 1)}
        for many in range(3):
            for tree in itertools.product(pairs, repeat=many):
                text = format_tree(tree)
                if tree in right:
                    self.assertEqual(parse_tree(text, house), tree)
                else:
                    wrong = [k for k in range(many) if tree[:k + 1] not in begun]
                    self.tree_fails(text, wrong[0] if wrong else many, house)

    def test_what_is_read_is_right(self):
        rng = random.Random(39)
        for _ in range(100):
            house = random_house(rng)
            rules, tree = random_rules(rng, house), random_tree(rng, house, 7)
            require_house(parse_house(format_house(house)))
            require_rules(house, parse_rules(format_rules(rules), house))
            require_tree(house, parse_tree(format_tree(tree), house))

    def test_long_texts(self):
        self.house_fails("x" * 20000, 0)
        self.house_fails("\n" * 20000, 0)
        self.house_fails("cells " + "9" * 19000 + "\n", 0)
        self.tree_fails("thing " + "1" * 19000 + " in root\n", 0)
        self.tree_fails("thing 0 in " + "1" * 19000 + "\n", 0)
        self.rules_fail("rule 0\nfrom " + "0 or " * 3900 + "0\nto 1\n", 1)


if __name__ == "__main__":
    unittest.main()
