"""Points 2 and 5, and the interface, movedfolders/kinds.py."""

import itertools
import unittest

from movedfolders.houses import contents
from movedfolders.kinds import after, come_to, kind_table, row_to
from tests.support import HOUSE, THREE, TWO


def with_kinds(sizes, *kinds):
    return (sizes, (0,) * len(sizes), kinds)


def made(sizes, steps, content):
    """Return what one kind of these steps makes of a content."""
    return after(with_kinds(sizes, steps), content, (0,))


def slowly(sizes, steps, content):
    """Return the same, step by step as the document words it."""
    cells = list(content)
    for step in steps:
        if step[0] == "when":
            if cells[step[1]] not in range(step[2], step[3] + 1):
                continue
            step = step[4]
        word, c, last = step
        if word == "set":
            cells[c] = last
        if word == "raise" and cells[c] < last:
            cells[c] = last
        if word == "lower" and cells[c] > last:
            cells[c] = last
        if word == "copy":
            cells[c] = cells[last] if cells[last] < sizes[c] else sizes[c] - 1
    return tuple(cells)


def all_plain_steps(sizes):
    cells = range(len(sizes))
    found = [(word, c, v) for word in ("set", "raise", "lower") for c in cells for v in range(sizes[c])]
    return found + [("copy", c, d) for c in cells for d in cells if c != d]


def all_steps(sizes):
    """Return every step that there is for cells of these sizes."""
    found = all_plain_steps(sizes)
    for c, size in enumerate(sizes):
        for low in range(size):
            for high in range(low, size):
                found += [("when", c, low, high, step) for step in all_plain_steps(sizes)]
    return found


class OneStep(unittest.TestCase):

    def each(self, sizes, step, wanted):
        """Check what a step makes of each content, given as one text of digits each."""
        found = ["".join(map(str, made(sizes, (step,), one))) for one in contents(with_kinds(sizes, ()))]
        self.assertEqual(" ".join(found), wanted)

    def test_set(self):
        self.each((4,), ("set", 0, 0), "0 0 0 0")
        self.each((4,), ("set", 0, 3), "3 3 3 3")
        self.each((2, 3), ("set", 1, 2), "02 02 02 12 12 12")
        self.each((2, 3), ("set", 0, 1), "10 11 12 10 11 12")

    def test_raise(self):
        self.each((4,), ("raise", 0, 0), "0 1 2 3")
        self.each((4,), ("raise", 0, 2), "2 2 2 3")
        self.each((4,), ("raise", 0, 3), "3 3 3 3")
        self.each((2, 3), ("raise", 1, 1), "01 01 02 11 11 12")

    def test_lower(self):
        self.each((4,), ("lower", 0, 0), "0 0 0 0")
        self.each((4,), ("lower", 0, 1), "0 1 1 1")
        self.each((4,), ("lower", 0, 3), "0 1 2 3")
        self.each((3, 2), ("lower", 0, 1), "00 01 10 11 10 11")

    def test_copy(self):
        self.each((2, 2), ("copy", 0, 1), "00 11 00 11")
        self.each((2, 3), ("copy", 1, 0), "00 00 00 11 11 11")
        self.each((2, 2, 2), ("copy", 2, 0), "000 000 010 010 101 101 111 111")

    def test_copy_into_a_cell_of_a_lesser_size(self):
        self.each((2, 3), ("copy", 0, 1), "00 11 12 00 11 12")
        self.each((2, 4), ("copy", 0, 1), "00 11 12 13 00 11 12 13")
        self.each((4, 2), ("copy", 1, 0), "00 00 11 11 21 21 31 31")

    def test_when_at_low_at_high_and_beside_both(self):
        self.each((6,), ("when", 0, 2, 4, ("set", 0, 0)), "0 1 0 0 0 5")
        self.each((6,), ("when", 0, 3, 3, ("set", 0, 0)), "0 1 2 0 4 5")
        self.each((6,), ("when", 0, 0, 0, ("set", 0, 5)), "5 1 2 3 4 5")
        self.each((6,), ("when", 0, 5, 5, ("set", 0, 0)), "0 1 2 3 4 0")
        self.each((6,), ("when", 0, 0, 5, ("set", 0, 4)), "4 4 4 4 4 4")

    def test_when_asks_its_own_cell(self):
        self.each((2, 3), ("when", 0, 1, 1, ("set", 1, 2)), "00 01 02 12 12 12")
        self.each((2, 3), ("when", 1, 1, 2, ("raise", 0, 1)), "00 11 12 10 11 12")
        self.each((2, 3), ("when", 1, 0, 1, ("lower", 1, 0)), "00 00 02 10 10 12")
        self.each((2, 4), ("when", 1, 2, 3, ("copy", 0, 1)), "00 01 12 13 10 11 12 13")

    def test_every_step(self):
        for sizes in ((2,), (5,), (8,), (2, 4), (4, 2), (3, 2), (2, 2, 2)):
            for step in all_steps(sizes):
                for content in contents(with_kinds(sizes, ())):
                    self.assertEqual(made(sizes, (step,), content), slowly(sizes, (step,), content), step)


class SeveralSteps(unittest.TestCase):

    def test_no_steps(self):
        for content in contents(TWO):
            self.assertEqual(made((2, 4), (), content), content)

    def test_in_order(self):
        self.assertEqual(made((3,), (("set", 0, 1), ("set", 0, 2)), (0,)), (2,))
        self.assertEqual(made((3,), (("set", 0, 2), ("set", 0, 1)), (0,)), (1,))
        self.assertEqual(made((2, 2), (("copy", 0, 1), ("set", 1, 0)), (0, 1)), (1, 0))
        self.assertEqual(made((2, 2), (("set", 1, 0), ("copy", 0, 1)), (0, 1)), (0, 0))

    def test_when_asks_behind_the_steps_ahead_of_it(self):
        up = ("when", 0, 1, 1, ("set", 0, 2))
        self.assertEqual(made((3,), (("raise", 0, 1), up), (0,)), (2,))
        self.assertEqual(made((3,), (up, ("raise", 0, 1)), (0,)), (1,))
        self.assertEqual(made((3,), (("set", 0, 0), up), (1,)), (0,))
        stairs = tuple(("when", 0, v, v, ("set", 0, v + 1)) for v in range(6))
        self.assertEqual(made((8,), stairs, (0,)), (6,))
        self.assertEqual(made((8,), stairs[::-1], (0,)), (1,))

    def test_copy_takes_the_value_of_this_moment(self):
        turn = (("copy", 2, 0), ("copy", 0, 1), ("copy", 1, 2))
        self.assertEqual(made((2, 2, 2), turn, (1, 0, 0)), (0, 1, 1))
        self.assertEqual(made((2, 2, 2), turn[1:], (1, 0, 0)), (0, 0, 0))

    def test_pairs_of_steps(self):
        sizes = (2, 3)
        for steps in itertools.product(all_steps(sizes), repeat=2):
            for content in ((0, 1), (1, 2)):
                self.assertEqual(made(sizes, steps, content), slowly(sizes, steps, content), steps)


class After(unittest.TestCase):

    def test_no_kinds(self):
        for house in (HOUSE, TWO, THREE):
            for content in contents(house):
                self.assertEqual(after(house, content, ()), content)

    def test_one_after_the_other(self):
        self.assertEqual(after(HOUSE, (0,), (1,)), (1,))
        self.assertEqual(after(HOUSE, (0,), (1, 2)), (2,))
        self.assertEqual(after(HOUSE, (0,), (2, 1)), (1,))
        self.assertEqual(after(HOUSE, (0,), (1, 2, 0)), (0,))
        self.assertEqual(after(HOUSE, (2,), (0, 1, 1)), (1,))

    def test_from_any_content_not_begin_alone(self):
        for content in contents(HOUSE):
            for kinds in itertools.product(range(3), repeat=3):
                wanted = content
                for kind in kinds:
                    wanted = slowly((3,), HOUSE[2][kind], wanted)
                self.assertEqual(after(HOUSE, content, kinds), wanted)

    def test_four_hundred_kinds(self):
        ring = with_kinds((2, 2, 2), (("copy", 2, 0), ("copy", 0, 1)), (("copy", 1, 2),), ())
        kinds = (0, 1, 2, 1) * 100
        wanted = (1, 0, 0)
        for kind in kinds:
            wanted = slowly((2, 2, 2), ring[2][kind], wanted)
        self.assertEqual(after(ring, (1, 0, 0), kinds), wanted)
        self.assertEqual(after(HOUSE, (0,), (0, 1) * 199 + (1, 2)), (2,))
        self.assertEqual(after(HOUSE, (0,), (1, 2) * 199 + (2, 0)), (0,))
        self.assertEqual(after(HOUSE, (0,), (0,) * 1000), (0,))


class KindTable(unittest.TestCase):

    def test_written_out(self):
        self.assertEqual(kind_table(HOUSE), (
            ((0,), 0, (0,)), ((0,), 1, (1,)), ((0,), 2, (0,)),
            ((1,), 0, (0,)), ((1,), 1, (1,)), ((1,), 2, (2,)),
            ((2,), 0, (0,)), ((2,), 1, (2,)), ((2,), 2, (2,)),
        ))

    def test_a_row_for_every_content_and_kind(self):
        five = ((2, 4), (1, 3), tuple((step,) for step in all_steps((2, 4))[3:33:6]))
        self.assertEqual(len(five[2]), 5)
        for house in (TWO, THREE, five):
            table = kind_table(house)
            wanted = [
                (content, kind, slowly(house[0], house[2][kind], content))
                for content in itertools.product(*[range(size) for size in house[0]])
                for kind in range(len(house[2]))
            ]
            self.assertIs(table.__class__, tuple)
            self.assertEqual(table, tuple(sorted(wanted)))
            self.assertEqual({row.__class__ for row in table}, {tuple})

    def test_does_not_depend_on_begin(self):
        self.assertEqual(kind_table(HOUSE), kind_table((HOUSE[0], (2,), HOUSE[2])))


# A content comes about only by several kinds in a row: a kind for each value of four.
STAIRS = ((5,), (0,), tuple((("when", 0, v, v, ("set", 0, v + 1)),) for v in range(4)))
# Two ways to 3: the longer one begins with the first kind.
WAYS = ((6,), (0,), (
    (("when", 0, 0, 0, ("set", 0, 1)),),
    (("when", 0, 1, 1, ("set", 0, 2)),),
    (("when", 0, 2, 2, ("set", 0, 3)),),
    (("when", 0, 0, 0, ("set", 0, 4)), ),
    (("when", 0, 4, 4, ("set", 0, 3)),),
))
# Eight contents in a ring of which each step needs the one before.
RING = ((2, 2, 2), (0, 0, 0), (
    (("when", 0, 0, 0, ("raise", 2, 1)),),
    (("when", 2, 1, 1, ("raise", 1, 1)),),
    (("when", 1, 1, 1, ("set", 2, 0)),),
    (("when", 1, 1, 1, ("raise", 0, 1)),),
    (("when", 0, 1, 1, ("set", 1, 0)),),
))


def by_all_rows(house, longest):
    """Return the length of a shortest row of kinds for each content, by trying all rows."""
    found = {}
    for length in range(longest + 1):
        for kinds in itertools.product(range(len(house[2])), repeat=length):
            content = house[1]
            for kind in kinds:
                content = slowly(house[0], house[2][kind], content)
            found.setdefault(content, length)
    return found


class ComeTo(unittest.TestCase):

    def test_begin_alone(self):
        self.assertEqual(come_to(((3,), (1,), ((),))), ((1,),))
        self.assertEqual(come_to(((2, 4), (1, 3), ((("set", 1, 3),), (("lower", 0, 1),)))), ((1, 3),))

    def test_ascending_from_a_begin_that_is_not_the_least(self):
        self.assertEqual(come_to(((4,), (2,), ((("set", 0, 3),), (("set", 0, 0),)))), ((0,), (2,), (3,)))

    def test_only_in_a_row_of_several_kinds(self):
        self.assertEqual(come_to(STAIRS), ((0,), (1,), (2,), (3,), (4,)))
        self.assertEqual(come_to((STAIRS[0], (2,), STAIRS[2])), ((2,), (3,), (4,)))
        self.assertEqual(come_to((STAIRS[0], (4,), STAIRS[2])), ((4,),))

    def test_against_all_rows_of_kinds(self):
        for house in (HOUSE, TWO, THREE, STAIRS, WAYS, RING):
            for begin in contents(house):
                house = (house[0], begin, house[2])
                found = come_to(house)
                self.assertIs(found.__class__, tuple)
                self.assertEqual(found, tuple(sorted(by_all_rows(house, 6))))


class RowTo(unittest.TestCase):

    def test_begin(self):
        for house in (HOUSE, TWO, THREE, STAIRS, WAYS, RING):
            for begin in contents(house):
                self.assertEqual(row_to((house[0], begin, house[2]), begin), ())

    def test_what_cannot_come_about(self):
        self.assertIsNone(row_to(TWO, (0, 0)))
        self.assertIsNone(row_to((STAIRS[0], (2,), STAIRS[2]), (1,)))
        self.assertIsNone(row_to(WAYS, (5,)))

    def test_the_only_row(self):
        self.assertEqual(row_to(HOUSE, (2,)), (1, 2))
        self.assertEqual(row_to(STAIRS, (4,)), (0, 1, 2, 3))
        self.assertEqual(row_to(WAYS, (3,)), (3, 4))

    def test_a_shortest_row_that_makes_it(self):
        for house in (HOUSE, TWO, THREE, STAIRS, WAYS, RING):
            for begin in contents(house):
                house = (house[0], begin, house[2])
                lengths = by_all_rows(house, 6)
                for content in contents(house):
                    row = row_to(house, content)
                    if content not in lengths:
                        self.assertIsNone(row)
                        continue
                    self.assertIs(row.__class__, tuple)
                    self.assertEqual(len(row), lengths[content])
                    self.assertEqual(after(house, begin, row), content)


if __name__ == "__main__":
    unittest.main()
