"""The examples of the document's interface, word for word, and those of README.md."""

import doctest
import os
import unittest

README = os.path.join(os.path.dirname(os.path.dirname(os.path.abspath(__file__))), "README.md")

HOUSES = '''
    >>> from movedfolders.houses import contents
    >>> shut, team, wide = (("set", 0, 0),), (("raise", 0, 1),), (("when", 0, 1, 1, ("set", 0, 2)),)
    >>> house, rules = ((3,), (0,), (shut, team, wide)), ((2, ((0,),), ((1,),)),)
    >>> contents(house)
    ((0,), (1,), (2,))
'''

KINDS = '''
    >>> from movedfolders.kinds import after, come_to, row_to
    >>> shut, team, wide = (("set", 0, 0),), (("raise", 0, 1),), (("when", 0, 1, 1, ("set", 0, 2)),)
    >>> house, rules = ((3,), (0,), (shut, team, wide)), ((2, ((0,),), ((1,),)),)
    >>> (after(house, (0,), (1, 2)), come_to(house), row_to(house, (2,)))
    ((2,), ((0,), (1,), (2,)), (1, 2))
'''


class Examples(unittest.TestCase):

    def check(self, name, text):
        example = doctest.DocTestParser().get_doctest(text, {}, name, None, 0)
        told = []
        results = doctest.DocTestRunner(verbose=False).run(example, out=told.append)
        self.assertEqual(results.failed, 0, "".join(told))
        self.assertGreater(results.attempted, 0)

    def test_houses(self):
        self.check("houses", HOUSES)

    def test_kinds(self):
        self.check("kinds", KINDS)

    def test_readme(self):
        with open(README, encoding="utf-8") as file:
            self.check("README.md", file.read())


if __name__ == "__main__":
    unittest.main()
