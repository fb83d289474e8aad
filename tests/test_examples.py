"""The examples of the document's interface, word for word, and those of README.md."""

import doctest
import os
import unittest

README = os.path.join(os.path.dirname(os.path.dirname(os.path.abspath(__file__))), "README.md")

HOUSES = '''
    >>> from movedfolders.houses import contents
    >>> shut, team, wide = (("set", 0, 0),), (("raise", 0, 1),), (("when", 0, 1, 1, ("set", 0, 2)),)
    >>> house, rules = ((3,), (0,), (shut, team, wide)), ((2, ((0,),), ((1,),)),)
    >>> contents(house)
    ((0,), (1,), (2,))
'''

KINDS = '''
    >>> from movedfolders.kinds import after, come_to, row_to
    >>> shut, team, wide = (("set", 0, 0),), (("raise", 0, 1),), (("when", 0, 1, 1, ("set", 0, 2)),)
    >>> house, rules = ((3,), (0,), (shut, team, wide)), ((2, ((0,),), ((1,),)),)
    >>> (after(house, (0,), (1, 2)), come_to(house), row_to(house, (2,)))
    ((2,), ((0,), (1,), (2,)), (1, 2))
'''

TREES = '''
    >>> from movedfolders.trees import contents_of, let_moves, played
    >>> shut, team, wide = (("set", 0, 0),), (("raise", 0, 1),), (("when", 0, 1, 1, ("set", 0, 2)),)
    >>> house, rules = ((3,), (0,), (shut, team, wide)), ((2, ((0,),), ((1,),)),)
    >>> tree = ((0, -1), (1, -1), (2, 0), (3, 2))
    >>> (contents_of(house, tree), let_moves(house, rules, tree), played(house, rules, tree, ((2, 1),)))
    (((0,), (0,), (0,), (0,)), ((2, 1),), ((0, -1), (1, -1), (2, 1), (3, 2)))
'''

PAIRS = '''
    >>> from movedfolders.pairs import place_pairs, thing_pairs
    >>> shut, team, wide = (("set", 0, 0),), (("raise", 0, 1),), (("when", 0, 1, 1, ("set", 0, 2)),)
    >>> house, rules = ((3,), (0,), (shut, team, wide)), ((2, ((0,),), ((1,),)),)
    >>> (place_pairs(house, rules), len(thing_pairs(house, rules, 2)))
    ((((0,), (0,)), ((0,), (2,)), ((1,), (1,)), ((1,), (2,)), ((2,), (2,))), 6)
'''

TABLES = '''
    >>> from movedfolders.pairs import place_pairs
    >>> from movedfolders.tables import fewest
    >>> first, second = (("when", 0, 5, 5, ("set", 0, 1)),), (("when", 0, 3, 3, ("set", 0, 1)), ("when", 0, 4, 4, ("set", 0, 2)))
    >>> trap = ((6,), (0,), (first, second, (("raise", 0, 3),), (("raise", 0, 4),), (("raise", 0, 5),)))
    >>> some = ((0, ((0,),), ((5,),)), (1, ((3,),), ((4,),)), (5, ((1,),), ((1,),)))
    >>> (((0,), (2,)) in place_pairs(trap, some), fewest(trap, some, 5, (0,), (2,)))
    (False, (3, 5))
    >>> from movedfolders.tables import fewest, least_table
    >>> shut, team, wide = (("set", 0, 0),), (("raise", 0, 1),), (("when", 0, 1, 1, ("set", 0, 2)),)
    >>> house, rules = ((3,), (0,), (shut, team, wide)), ((2, ((0,),), ((1,),)),)
    >>> (least_table(house, rules)[0][1], fewest(house, rules, 3, (0,), (2,)), fewest(house, rules, 3, (0,), (1,)))
    (((0,), (2,), 1, 2), (1, 2), None)
'''

COURSES = '''
    >>> from movedfolders.courses import course_cost, course_pair, used_rules
    >>> shut, team, wide = (("set", 0, 0),), (("raise", 0, 1),), (("when", 0, 1, 1, ("set", 0, 2)),)
    >>> house, rules = ((3,), (0,), (shut, team, wide)), ((2, ((0,),), ((1,),)),)
    >>> course = ((("root",), (1, (0,)), (2, (0, 0, 1))), (2,))
    >>> (course_pair(house, rules, 3, course), course_cost(house, rules, 3, course), used_rules(course))
    (((0,), (2,)), (1, 2), (0,))
'''

UNFOLDING = '''
    >>> from movedfolders.unfolding import unfold
    >>> shut, team, wide = (("set", 0, 0),), (("raise", 0, 1),), (("when", 0, 1, 1, ("set", 0, 2)),)
    >>> house, rules = ((3,), (0,), (shut, team, wide)), ((2, ((0,),), ((1,),)),)
    >>> tree, thing, moves = unfold(house, rules, 3, ((("root",), (1, (0,)), (2, (0, 0, 1))), (2,)))
    >>> (len(tree), len(moves))
    (3, 1)
'''

FORECASTS = '''
    >>> from movedfolders.forecasts import forecast
    >>> shut, team, wide = (("set", 0, 0),), (("raise", 0, 1),), (("when", 0, 1, 1, ("set", 0, 2)),)
    >>> house, rules = ((3,), (0,), (shut, team, wide)), ((2, ((0,),), ((1,),)),)
    >>> tree = ((0, -1), (1, -1), (2, 0), (3, 2))
    >>> (forecast(house, rules, tree, 2), forecast(house, rules, tree, 1))
    ((((0,), 0, 0), ((1,), 1, 1), ((2,), 2, 3)), (((0,), 0, 0),))
'''

TASKS = '''
    >>> from movedfolders.tasks import is_safe, keeps
    >>> shut, team, wide = (("set", 0, 0),), (("raise", 0, 1),), (("when", 0, 1, 1, ("set", 0, 2)),)
    >>> house, rules = ((3,), (0,), (shut, team, wide)), ((2, ((0,),), ((1,),)),)
    >>> (is_safe(house, rules, (3, ((0,),), ((2,),))), keeps(house, rules, (2, (0,), (1,))))
    (False, True)
'''

WITHDRAWALS = '''
    >>> from movedfolders.withdrawals import cheapest, least_price
    >>> shut, team, wide = (("set", 0, 0),), (("raise", 0, 1),), (("when", 0, 1, 1, ("set", 0, 2)),)
    >>> house, rules = ((3,), (0,), (shut, team, wide)), ((2, ((0,),), ((1,),)),)
    >>> leaks = ((3, ((0,),), ((2,),)),)
    >>> (least_price(house, rules, (leaks, (), (5,))), cheapest(house, rules, (leaks, ((2, (0,), (1,)),), (5,))))
    (5, None)
'''

CLAIMS = '''
    >>> from movedfolders.claims import decide
    >>> shut, team, wide = (("set", 0, 0),), (("raise", 0, 1),), (("when", 0, 1, 1, ("set", 0, 2)),)
    >>> house, rules = ((3,), (0,), (shut, team, wide)), ((2, ((0,),), ((1,),)),)
    >>> tree = ((0, -1), (1, -1), (2, 0), (3, 2))
    >>> (decide(house, ("can", rules, 3, (0,), (1,)))[0], decide(house, ("never", rules, tree, 1, ((2,),)))[0])
    ('broken', 'shown')
'''

CHECKER = '''
    >>> from movedfolders.checker import first_fault
    >>> shut, team, wide = (("set", 0, 0),), (("raise", 0, 1),), (("when", 0, 1, 1, ("set", 0, 2)),)
    >>> house, rules = ((3,), (0,), (shut, team, wide)), ((2, ((0,),), ((1,),)),)
    >>> first_fault(house, ("shown", ("can", rules, 3, (0,), (1,)), ((("root",), (1, (0,)), (2, (0, 0, 1))), (2,))))
    ('pair',)
'''

DRIVES = '''
    >>> from movedfolders.drives import Drive
    >>> shut, team, wide = (("set", 0, 0),), (("raise", 0, 1),), (("when", 0, 1, 1, ("set", 0, 2)),)
    >>> house, rules = ((3,), (0,), (shut, team, wide)), ((2, ((0,),), ((1,),)),)
    >>> drive = Drive(house, rules)
    >>> numbers = [drive.add(1), drive.add(2), drive.add(3, 1)]
    >>> (numbers, drive.fewest(2, (2,)), drive.move(1, 0), drive.content(2))
    ([0, 1, 2], (1, 1), 0, (2,))
'''

TEXTS = r'''
    >>> from movedfolders.texts import format_house, format_rules, format_tree
    >>> shut, team, wide = (("set", 0, 0),), (("raise", 0, 1),), (("when", 0, 1, 1, ("set", 0, 2)),)
    >>> house, rules = ((3,), (0,), (shut, team, wide)), ((2, ((0,),), ((1,),)),)
    >>> tree = ((0, -1), (1, -1), (2, 0), (3, 2))
    >>> (format_house(house), format_rules(rules), format_tree(tree))
    ('cells 3\nbegin 0\nkind\nset 0 0\nkind\nraise 0 1\nkind\nwhen 0 1 1 set 0 2\n', 'rule 2\nfrom 0\nto 1\n', 'thing 0 in root\nthing 1 in root\nthing 2 in 0\nthing 3 in 2\n')
'''


class Examples(unittest.TestCase):

    def check(self, name, text):
        example = doctest.DocTestParser().get_doctest(text, {}, name, None, 0)
        told = []
        results = doctest.DocTestRunner(verbose=False).run(example, out=told.append)
        self.assertEqual(results.failed, 0, "".join(told))
        self.assertGreater(results.attempted, 0)

    def test_houses(self):
        self.check("houses", HOUSES)

    def test_kinds(self):
        self.check("kinds", KINDS)

    def test_trees(self):
        self.check("trees", TREES)

    def test_pairs(self):
        self.check("pairs", PAIRS)

    def test_tables(self):
        self.check("tables", TABLES)

    def test_courses(self):
        self.check("courses", COURSES)

    def test_unfolding(self):
        self.check("unfolding", UNFOLDING)

    def test_forecasts(self):
        self.check("forecasts", FORECASTS)

    def test_tasks(self):
        self.check("tasks", TASKS)

    def test_withdrawals(self):
        self.check("withdrawals", WITHDRAWALS)

    def test_claims(self):
        self.check("claims", CLAIMS)

    def test_checker(self):
        self.check("checker", CHECKER)

    def test_drives(self):
        self.check("drives", DRIVES)

    def test_texts(self):
        self.check("texts", TEXTS)

    def test_readme(self):
        with open(README, encoding="utf-8") as file:
            self.check("README.md", file.read())


if __name__ == "__main__":
    unittest.main()
