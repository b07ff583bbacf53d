"""Point 19: what cells name."""

import unittest

from lazywebs.cells import named_by

CELLS = [
    (("number", 5), []), (("number", 0), []), (("number", -10 ** 60 + 1), []),
    (("function", "f", ()), []), (("function", "f", (3,)), [3]), (("function", "f", (3, 1)), [3, 1]),
    (("function", "give", (2, 2, 0)), [2, 2, 0]), (("function", "number", (9, 8, 7, 6)), [9, 8, 7, 6]),
    (("pair", 4, 2), [4, 2]), (("pair", 2, 2), [2, 2]),
    (("give", 1, 0), [1, 0]), (("plus", 7, 8), [7, 8]), (("less", 8, 7), [8, 7]), (("times", 0, 3999), [0, 3999]),
    (("below", 3, 3), [3, 3]), (("when", 5, 3, 4), [5, 3, 4]), (("when", 0, 0, 0), [0, 0, 0]),
    (("left", 6), [6]), (("right", 0), [0]), (("same", 11), [11]), (("same", 0), [0]),
    (("call", "f"), []), (("call", ""), []), (("call", "same"), []), (("bare",), []),
]


class NamedBy(unittest.TestCase):
    def test_each_kind_of_cell(self):
        for cell, due in CELLS:
            told = named_by(cell)
            self.assertEqual(told, due, cell)
            self.assertIs(type(told), list)

    def test_a_told_list_is_the_askers_own(self):
        for cell, due in CELLS:
            before = (*cell,)
            told = named_by(cell)
            told.append(77)
            told.insert(0, 78)
            self.assertEqual(named_by(cell), due)
            self.assertEqual(cell, before)
