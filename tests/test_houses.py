"""Points 2 and 4, and the interface, movedfolders/houses.py."""

import copy
import itertools
import unittest

from movedfolders.errors import InvalidHouse
from movedfolders.houses import contents, require_house
from tests.support import HOUSE, NO_INTEGERS, THREE, TWO, nested, put, strange_values

STEP = ("set", 0, 1)

# Steps for the sizes (2, 4): cell 0 has no value 2 and 3.
RIGHT_STEPS = (
    ("set", 0, 0), ("set", 0, 1), ("set", 1, 0), ("set", 1, 3), ("raise", 0, 1), ("raise", 1, 3), ("lower", 0, 0),
    ("lower", 1, 3), ("copy", 0, 1), ("copy", 1, 0), ("when", 0, 0, 1, ("set", 1, 3)),
    ("when", 1, 0, 3, ("raise", 0, 1)), ("when", 1, 3, 3, ("lower", 1, 0)), ("when", 1, 2, 3, ("copy", 0, 1)),
    ("when", 0, 1, 1, ("copy", 1, 0)),
)


def wrong_plain_steps():
    """Return what is no step for (2, 4), nor one behind a when, each wrong in one part."""
    found = []
    for word in ("set", "raise", "lower", "copy"):
        right = (word, 1, 0)
        found += [(word, cell, 0) for cell in NO_INTEGERS + (2, 3)]
        found += [(word, 1, value) for value in NO_INTEGERS + (4, 5)]
        found += [right + (0,), right + (right,), right[:2], right[:1], list(right), (list(right),), (right,)]
        found += [(word, 0, 1, 1, ("set", 0, 1)), dict(enumerate(right))]
    found += [(word, 0, 2) for word in ("set", "raise", "lower", "copy")]
    found += [("copy", 0, 0), ("copy", 1, 1), ("copy", 1, 2), ("copy", 0, 3), ("copy", 2, 2)]
    found += [(word, 0, 1) for word in ("Set", "set ", "", "when", "drop", None, 0, True, ("set",), ["set"], {})]
    return found + ["set", "set 0 1", None, 0, True, [], {}, (), ((),), nested(40, lambda inner: (inner, 0, 0))]


def wrong_steps():
    """Return what is no step for (2, 4), each wrong in one part."""
    right = ("when", 1, 1, 2, ("set", 0, 1))
    plain = wrong_plain_steps()
    found = plain + [put(right, 4, step) for step in plain]
    found += [put(right, 1, cell) for cell in NO_INTEGERS + (2, 3)]
    found += [put(right, 2, low) for low in NO_INTEGERS + (3, 4)]
    found += [put(right, 3, high) for high in NO_INTEGERS + (0, 4)]
    found += [put(right, 4, right), put(right, 4, (STEP, STEP)), put(right, 4, list(STEP)), put(right, 0, "if")]
    found += [right[:4], right + (0,), right + (STEP,), list(right), ("when", 0, 0, 2, STEP), ("when", 0, 1, 0, STEP)]
    found += [put(right, 0, word) for word in ("set", "copy", None, ("when",))]
    return found + [nested(40, lambda inner: ("when", 1, 0, 0, inner))]


def steps_of_one_kind(many):
    """Return a right kind of so many steps for one cell of size 2."""
    return (("set", 0, 1),) * many


class RightHouses(unittest.TestCase):

    def check(self, house):
        before = copy.deepcopy(house)
        self.assertIs(require_house(house), house)
        self.assertEqual(house, before)

    def test_examples(self):
        for house in (HOUSE, TWO, THREE):
            self.check(house)

    def test_sizes_at_the_bounds(self):
        for many in (1, 2, 3):
            for sizes in itertools.product(range(2, 9), repeat=many):
                product = 1
                for size in sizes:
                    product *= size
                house = (sizes, (0,) * many, ((),))
                with self.subTest(sizes=sizes):
                    if product <= 8:
                        self.check(house)
                    else:
                        self.assertEqual(fault(house), ("sizes",))

    def test_begin_at_the_bounds(self):
        for sizes in ((2,), (8,), (2, 4), (4, 2), (3, 2), (2, 2, 2)):
            for begin in itertools.product(*[range(size) for size in sizes]):
                self.check((sizes, begin, ((),)))

    def test_one_to_five_kinds(self):
        for many in range(1, 6):
            self.check(((2,), (0,), (steps_of_one_kind(1),) * many))
            self.check(((2,), (0,), tuple(steps_of_one_kind(k) for k in range(many))))

    def test_kinds_of_no_step_to_six(self):
        for many in range(7):
            self.check(((2,), (0,), (steps_of_one_kind(many),)))
            self.check(((2,), (0,), (steps_of_one_kind(many),) * 5))

    def test_each_step(self):
        for step in RIGHT_STEPS:
            with self.subTest(step=step):
                self.check(((2, 4), (0, 0), ((step,),)))
                self.check(((2, 4), (0, 0), ((), (step,) * 6)))


def fault(value):
    """Return the part that require_house tells to be wrong."""
    try:
        require_house(value)
    except InvalidHouse as e:
        return e.part
    return "right"


class WrongHouses(unittest.TestCase):

    def test_not_a_triple(self):
        for value in ((), HOUSE[:1], HOUSE[:2], HOUSE + (0,), HOUSE + HOUSE, list(HOUSE), (HOUSE,), (HOUSE,) * 2):
            self.assertIsNone(fault(value))

    def test_third_part(self):
        for part in ((), ((),) * 6, [()], [], None, 0, "", "kinds", {}, {0: ()}, True, ((),) * 400000):
            with self.subTest(part=str(part)[:40]):
                self.assertIsNone(fault(((2,), (0,), part)))

    def test_values_that_are_no_house_at_all(self):
        for at, value in enumerate(strange_values()):
            with self.subTest(at):
                self.assertIsNone(fault(value))

    def test_sizes(self):
        wrong = [
            (), (2,) * 4, (2, 2, 2, 2), (1,), (9,), (0,), (-2,), (1, 8), (8, 1), (2, 2, 1), (3, 3), (2, 5), (8, 2),
            (2, 2, 3), (4, 4), (True,), (2, True), (True, 2), (False,), [2], [2, 2], {2: 2}, "2", 2, None, ((2,),),
            (2, "2"), (None,), ([2],), (10 ** 79,), (-(10 ** 79),), (10 ** 79, 10 ** 79, 10 ** 79), (2,) * 400000,
        ]
        for at, sizes in enumerate(wrong + strange_values()):
            with self.subTest(at):
                self.assertEqual(fault((sizes, (0,), ((),))), ("sizes",))

    def test_begin(self):
        wrong = [(), (0,), (0, 0, 0), (2, 0), (0, 4), (-1, 0), (0, -1), [0, 0], {0: 0, 1: 0}, "00", 0, None]
        for part in NO_INTEGERS + (4,):
            wrong += [(0, part), (part, 0)]
        for at, begin in enumerate(wrong + strange_values()):
            with self.subTest(at):
                self.assertEqual(fault(((2, 4), begin, ((),))), ("begin",))

    def test_begin_of_another_number_of_cells(self):
        self.assertEqual(fault(((2,), (0, 0), ((),))), ("begin",))
        self.assertEqual(fault(((2, 2, 2), (0, 0), ((),))), ("begin",))
        self.assertEqual(fault(((3,), (3,), ((),))), ("begin",))
        self.assertEqual(fault(((8,), (8,), ((),))), ("begin",))

    def test_steps(self):
        for at, step in enumerate(wrong_steps() + strange_values()):
            for kind in ((step,), (step, STEP), (STEP, step), (STEP,) * 5 + (step,)):
                with self.subTest(at):
                    self.assertEqual(fault(((2, 4), (0, 0), (kind,))), ("kind", 0))
                    self.assertEqual(fault(((2, 4), (0, 0), ((), (STEP,), kind, ()))), ("kind", 2))

    def test_no_tuple_of_at_most_six_steps(self):
        wrong = [(STEP,) * 7, (STEP,) * 400000, [STEP], [], STEP, {}, {0: STEP}, None, 0, "", True, "set"]
        for at, kind in enumerate(wrong):
            for k in range(5):
                with self.subTest(at, k=k):
                    self.assertEqual(fault(((2, 4), (0, 0), put(((),) * 5, k, kind))), ("kind", k))

    def test_strange_kinds(self):
        for at, kind in enumerate(strange_values()):
            with self.subTest(at):
                self.assertEqual(fault(((2, 4), (0, 0), ((STEP,), kind))), ("kind", 1))

    def test_no_other_cell_to_copy(self):
        for last in (0, 1):
            self.assertEqual(fault(((4,), (0,), ((("copy", 0, last),),))), ("kind", 0))

    def test_values_are_those_of_the_own_cell(self):
        self.assertEqual(fault(((4, 2), (0, 0), ((("set", 0, 3),), (("set", 1, 2),)))), ("kind", 1))
        self.assertEqual(fault(((2, 4), (0, 0), ((("when", 1, 3, 3, ("set", 0, 3)),),))), ("kind", 0))
        self.assertEqual(fault(((2, 4), (0, 0), ((("when", 0, 1, 3, ("set", 1, 3)),),))), ("kind", 0))

    def test_the_first_wrong_part_is_told(self):
        no_sizes, no_begin, no_kind = (9,), [0], ("no step",)
        for sizes in ((2,), no_sizes):
            for begin in ((0,), no_begin):
                for kinds in itertools.product(((), no_kind), repeat=3):
                    wanted = "right"
                    if no_kind in kinds:
                        wanted = ("kind", kinds.index(no_kind))
                    if begin == no_begin:
                        wanted = ("begin",)
                    if sizes == no_sizes:
                        wanted = ("sizes",)
                    self.assertEqual(fault((sizes, begin, kinds)), wanted)
        self.assertIsNone(fault((no_sizes, no_begin, ())))
        self.assertIsNone(fault((no_sizes, no_begin, [no_kind])))
        self.assertIsNone(fault((no_sizes, no_begin, (no_kind,) * 6)))
        self.assertIsNone(fault((no_sizes, no_begin, (no_kind,), 0)))

    def test_wrong_values_are_not_modified(self):
        for house in (
            ([2], (0,), [("set", 0, [1])]), ([2], [0], ([["set", 0, 1]],)), ((2,), [0], ([["set", 0, 1]],)),
            ((2,), (0,), ([["set", 0, 1]],)), ((2,), (0,), ((["set", 0, 1],),)), [(2,), (0,), ((),)],
        ):
            before = copy.deepcopy(house)
            self.assertNotEqual(fault(house), "right")
            self.assertEqual(house, before)


class Contents(unittest.TestCase):

    def test_written_out(self):
        self.assertEqual(contents(((2,), (0,), ((),))), ((0,), (1,)))
        self.assertEqual(contents(((3,), (2,), ((),))), ((0,), (1,), (2,)))
        self.assertEqual(contents(((2, 3), (0, 0), ((),))), ((0, 0), (0, 1), (0, 2), (1, 0), (1, 1), (1, 2)))
        self.assertEqual(contents(((3, 2), (0, 0), ((),))), ((0, 0), (0, 1), (1, 0), (1, 1), (2, 0), (2, 1)))
        self.assertEqual(contents(THREE), (
            (0, 0, 0), (0, 0, 1), (0, 1, 0), (0, 1, 1), (1, 0, 0), (1, 0, 1), (1, 1, 0), (1, 1, 1),
        ))

    def test_all_ascending(self):
        for sizes in ((2,), (3,), (4,), (5,), (6,), (7,), (8,), (2, 2), (2, 3), (2, 4), (3, 2), (4, 2), (2, 2, 2)):
            found = contents((sizes, (1,) * len(sizes), ((),)))
            self.assertIs(found.__class__, tuple)
            self.assertEqual(found, tuple(sorted(itertools.product(*[range(size) for size in sizes]))))


if __name__ == "__main__":
    unittest.main()
