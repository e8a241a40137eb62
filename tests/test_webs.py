"""[4.1], and [0.3], [0.4] for laidplates.webs."""

import unittest
from itertools import product

from helping import (F, T, Dice, is_row_of_numbers, knots_by_hand, raised, row_by_hand, some_table, sound_by_hand,
                     things, tied)
from laidplates.errors import NoKnot
from laidplates.tables import Table
from laidplates.webs import knots, row_of, sound


class WebTests(unittest.TestCase):
    def same_as_by_hand(self, table):
        self.assertEqual(knots(table), knots_by_hand(table))
        self.assertEqual(sound(table), sound_by_hand(table))
        for knot in knots(table):
            self.assertEqual(row_of(table, knot), row_by_hand(table, knot))

    def test_all_ties_of_three_cells(self):
        pairs = [(r, w) for r in range(3) for w in range(3) if r != w]
        for chosen in product((False, True), repeat=6):
            some = [pair for pair, there in zip(pairs, chosen) if there]
            self.same_as_by_hand(tied(3, some, [(0, ())]))
            self.same_as_by_hand(tied(5, [(2 * r, 2 * w) for r, w in some], [(3, (0,))]))

    def test_some_tables(self):
        dice = Dice(51)
        sizes = {}
        for _ in range(400):
            table = some_table(dice, 1 + dice.roll(6), 10)
            self.same_as_by_hand(table)
            for knot in knots(table):
                sizes[len(knot)] = sizes.get(len(knot), 0) + 1
        self.assertGreater(len(sizes), 4)

    def test_some_rows_and_what_is_near_them(self):
        dice = Dice(52)
        for _ in range(60):
            cells = list(range(2 + dice.roll(4)))
            order = [cells.pop(dice.roll(len(cells))) for _ in range(len(cells))]
            pairs = list(zip(order, order[1:])) + list(zip(order[1:], order))
            table = tied(6, pairs)
            self.assertEqual(row_of(table, tuple(sorted(order))), min(tuple(order), tuple(reversed(order))))
            self.assertEqual(sound(table), [tuple(sorted(order))])
            self.same_as_by_hand(tied(6, pairs + [(order[0], order[-1])] if len(order) > 2 else pairs))

    def test_cells_that_never_change(self):
        table = Table(4, ((1, (0,)), (1, (0, 2, 3)), (3, (1,))))
        self.assertEqual(knots(table), [(1, 3)])
        self.assertEqual(knots(Table(8, ((5, (0, 1, 2)),))), [(5,)])
        self.assertEqual(sound(Table(8, ((5, (0, 1, 5)),))), [(5,)])
        self.assertEqual(sound(table), [(1, 3)])
        self.assertEqual(row_of(table, (1, 3)), (1, 3))

    def test_ties_one_way_make_no_knot(self):
        table = tied(3, [(0, 1), (1, 2), (0, 2)])
        self.assertEqual(knots(table), [(0,), (1,), (2,)])
        self.assertEqual(sound(table), [(0,), (1,), (2,)])
        self.assertEqual(row_of(table, (1,)), (1,))

    def test_rings_and_forks_are_no_rows(self):
        for many in range(3, 9):
            ring = tied(8, [(cell, (cell + 1) % many) for cell in range(many)])
            self.assertEqual(knots(ring), [tuple(range(many))])
            self.assertIsNone(row_of(ring, tuple(range(many))))
            self.assertEqual(sound(ring), [])
        fork = tied(4, [(0, 1), (1, 0), (0, 2), (2, 0), (0, 3), (3, 0)])
        self.assertIsNone(row_of(fork, (0, 1, 2, 3)))
        self.assertEqual(sound(fork), [])
        tailed = tied(5, [(0, 1), (1, 2), (2, 0), (2, 3), (3, 2), (3, 4), (4, 3)])
        self.assertIsNone(row_of(tailed, (0, 1, 2, 3, 4)))

    def test_the_least_row_of_both_directions(self):
        self.assertEqual(row_of(tied(3, [(1, 0), (0, 1), (0, 2), (2, 0)]), (0, 1, 2)), (1, 0, 2))
        order = (6, 1, 7, 0, 3, 5, 2, 4)
        pairs = list(zip(order, order[1:])) + list(zip(order[1:], order))
        self.assertEqual(row_of(tied(8, pairs), tuple(range(8))), (4, 2, 5, 3, 0, 7, 1, 6))

    def test_kinds_that_read_two_cells_of_one_knot(self):
        two = [(0, 1), (1, 0)]
        self.assertEqual(sound(tied(3, two)), [(0, 1)])
        self.assertEqual(sound(tied(3, two, [(0, (0, 1))])), [])
        self.assertEqual(sound(tied(3, two, [(0, (0,)), (1, (1, 2))])), [(0, 1)])
        self.assertEqual(sound(tied(3, two, [(2, (0, 1))])), [(0, 1), (2,)])
        self.assertEqual(sound(tied(3, two, [(2, (0, 1, 2))])), [(0, 1), (2,)])
        row = [(0, 1), (1, 0), (1, 2), (2, 1)]
        self.assertEqual(sound(tied(3, row)), [(0, 1, 2)])
        self.assertEqual(sound(tied(3, row, [(1, (0, 2))])), [])
        self.assertEqual(sound(F), [])
        self.assertEqual(sound(T), [(0, 1)])

    def test_two_knots_that_are_tied_one_way(self):
        table = tied(6, [(0, 5), (5, 0), (1, 3), (3, 1), (0, 1), (5, 3)])
        self.assertEqual(knots(table), [(0, 5), (1, 3)])
        self.assertEqual(sound(table), [(0, 5), (1, 3)])
        self.assertEqual(sound(tied(6, [(0, 5), (5, 0), (1, 3), (3, 1)], [(1, (1, 3)), (3, (0, 5))])), [(0, 5)])

    def test_each_list_is_new(self):
        for action in (knots, sound):
            told = action(T)
            told.append("more")
            self.assertEqual(action(T), [(0, 1)])


class NoKnotTests(unittest.TestCase):
    def test_what_is_no_knot(self):
        table = tied(6, [(0, 5), (5, 0), (1, 3), (3, 1), (0, 1)])
        for wrong in ((0,), (5,), (5, 0), (0, 1), (0, 1, 3, 5), (2,), (4,), (), [0, 5], (0, 5, 5), (6,), (-1,), None,
                      [(0, 5)], ((0, 5),), "05", 0, {0: 5}, (0, "5"), (False, 5), (True, 3)):
            self.assertIs(type(raised(row_of, table, wrong)), NoKnot, wrong)
        self.assertIs(type(raised(row_of, Table(2, ((1, ()),)), (True,))), NoKnot)
        self.assertIs(type(raised(row_of, Table(2, ((1, ()),)), (0,))), NoKnot)
        self.assertEqual(row_of(Table(2, ((1, ()),)), (1,)), (1,))

    def test_things_of_every_kind(self):
        for table in (T, F, tied(3, [(0, 2)])):
            for thing in things():
                for some in (thing, (thing,), (0, thing), (thing, 1)):
                    right = is_row_of_numbers(some) and some in knots_by_hand(table)
                    self.assertIs(type(raised(row_of, table, some)), type(None) if right else NoKnot)


if __name__ == "__main__":
    unittest.main()
