"""The examples of the document, as they stand."""

import unittest

from laidplates.benches import Bench
from laidplates.classes import alike, count_far, telling
from laidplates.deriving import can_cut, derived, lost, redo
from laidplates.desks import tale
from laidplates.layings import count_layings, harmed, lay_out
from laidplates.mendings import mendings, most_ordered, most_ties
from laidplates.places import fewest_places
from laidplates.runs import never_stuck
from laidplates.standings import count_sticking, shortest_sticking
from laidplates.sticking import is_sticking, never_sticks
from laidplates.sweeps import sweep_order
from laidplates.tables import Table, fresh, present, sources
from laidplates.texts import table_text
from laidplates.webs import knots, row_of, sound
from laidplates.worlds import bits_of

t = Table(2, ((0, (1,)), (1, (0,))))
f = Table(2, ((0, (0, 1)), (1, (0,))))


class ExampleTests(unittest.TestCase):
    def test_e01(self):
        self.assertEqual(present(t, (0, 1)), (0, 1))
        self.assertEqual(sources(t, (0, 1), 1), (0,))
        self.assertEqual(fresh(t), (-1, -2))

    def test_e02(self):
        self.assertEqual(derived(t, (0, 1), (0, -2)), (-2, 0, 1))
        self.assertEqual(lost(t, (0, 1), (-1, 1)), (0,))
        self.assertEqual(redo(t, (0, 1), (-1, -2)), (0, 1))
        self.assertEqual(can_cut(t, (0, 1), (0, -2)), 1)

    def test_e03(self):
        self.assertEqual(bits_of(t, (0, 1), ((0, 1), (1, 0)), (0, 1)), (1, 0))

    def test_e04(self):
        self.assertEqual(harmed(t, (0, 1), (-1, -2), 1), (0,))
        self.assertEqual(lay_out(t, (0, 1), (-1, -2)), (0, 1))
        self.assertEqual(count_layings(t, (0, 1), (-1, -2)), 1)

    def test_e05(self):
        self.assertEqual(knots(t), [(0, 1)])
        self.assertEqual(row_of(t, (0, 1)), (0, 1))
        self.assertEqual(sound(f), [])

    def test_e06(self):
        self.assertIs(never_sticks(t), True)
        self.assertIs(is_sticking(f, (0, 1, 0)), True)

    def test_e07(self):
        self.assertEqual(shortest_sticking(f), (0, 1, 0))
        self.assertEqual(count_sticking(f, 3), 1)

    def test_e08(self):
        self.assertIs(never_stuck(t), True)
        self.assertEqual(fewest_places(f), 1)

    def test_e09(self):
        self.assertIs(sweep_order(t), None)
        self.assertEqual(sweep_order(Table(2, ((0, ()), (1, (0,))))), (0, 1))

    def test_e10(self):
        self.assertEqual(table_text(f), "cells 2\nkind 0 0 1\nkind 1 0\n")

    def test_e11(self):
        bench = Bench(t)
        self.assertEqual((bench.knots(), bench.verdict()), ([(0, 1)], "never"))
        bench.add_kind((0, (0, 1)))
        self.assertEqual((bench.bad_knots(), bench.verdict()), ([(0, 1)], "sticks"))

    def test_e12(self):
        self.assertEqual(mendings(f), [(0,), (1,)])
        self.assertEqual((most_ties(5), most_ordered(5)), (12, 10))

    def test_e13(self):
        self.assertIs(alike(f, (0,), (0, 0)), True)
        self.assertEqual(telling(f, (), (0, 1)), (0,))
        self.assertEqual(count_far(f, 3, 7), 1)

    def test_e14(self):
        self.assertEqual(tale(["bench b cells 2;kind 0 1;kind 1 0;", "press p b", "do p 0", "values p", "lays p",
                               "plates p"]), ["ok", "ok", "ok", "1 0", "0", "0 -2"])


if __name__ == "__main__":
    unittest.main()
