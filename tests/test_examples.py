"""The examples of the document, as they stand."""

import unittest

from laidplates.deriving import can_cut, derived, lost, redo
from laidplates.tables import Table, fresh, present, sources

t = Table(2, ((0, (1,)), (1, (0,))))
f = Table(2, ((0, (0, 1)), (1, (0,))))


class ExampleTests(unittest.TestCase):
    def test_e01(self):
        self.assertEqual(present(t, (0, 1)), (0, 1))
        self.assertEqual(sources(t, (0, 1), 1), (0,))
        self.assertEqual(fresh(t), (-1, -2))

    def test_e02(self):
        self.assertEqual(derived(t, (0, 1), (0, -2)), (-2, 0, 1))
        self.assertEqual(lost(t, (0, 1), (-1, 1)), (0,))
        self.assertEqual(redo(t, (0, 1), (-1, -2)), (0, 1))
        self.assertEqual(can_cut(t, (0, 1), (0, -2)), 1)


if __name__ == "__main__":
    unittest.main()
