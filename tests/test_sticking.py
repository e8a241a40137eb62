"""[4.2], and [0.3], [0.4] for laidplates.sticking."""

import unittest
from itertools import combinations, permutations

from helping import (F, T, Dice, all_journals, filled_up, is_journal_by_hand, knots_by_hand, ring, row, some_journal,
                     some_table, sound_by_hand, sticks_by_hand, table_of, tables_of_two_cells, things, tied)
from laidplates.sticking import is_sticking, never_sticks, sticking
from laidplates.tables import Table

BOTH = [(0, 1), (1, 0), (1, 2), (2, 1)]


class StickingTests(unittest.TestCase):
    def same_as_the_fact(self, table):
        """never_sticks by the knots, and a journal that sticks just where it is False."""
        never = knots_by_hand(table) == sound_by_hand(table)
        self.assertIs(never_sticks(table), never)
        journal = sticking(table)
        self.assertEqual(journal, sticking(Table(table.cells, table.kinds)))
        if never:
            self.assertIsNone(journal)
        else:
            self.sticks(table, journal)
        return never

    def sticks(self, table, journal):
        self.assertTrue(is_journal_by_hand(table, journal))
        self.assertTrue(sticks_by_hand(table, journal))
        self.assertIs(is_sticking(table, journal), True)

    def test_all_tables_of_two_cells_and_all_journals_of_few_deeds(self):
        for table in tables_of_two_cells():
            some = False
            for deeds in range(4):
                for journal in all_journals(table, deeds):
                    sticks = sticks_by_hand(table, journal)
                    self.assertIs(is_sticking(table, journal), sticks)
                    some = some or sticks
            self.assertIs(self.same_as_the_fact(table), not some)

    def test_tables_of_three_cells_and_all_journals_of_few_deeds(self):
        dice = Dice(71)
        seen = {True: 0, False: 0}
        for _ in range(60):
            table = some_table(dice, 3, 5)
            found = [sticks_by_hand(table, journal) for deeds in range(6) for journal in all_journals(table, deeds)]
            seen[any(found)] += 1
            self.assertIs(self.same_as_the_fact(table), not any(found))
        self.assertGreater(min(seen.values()), 8)

    def test_all_webs_of_three_cells(self):
        pairs = [(r, w) for r in range(3) for w in range(3) if r != w]
        for many in range(len(pairs) + 1):
            for some in combinations(pairs, many):
                self.same_as_the_fact(tied(4, some, [(0, ()), (1, (3,))]))

    def test_rings_one_way_and_both(self):
        dice = Dice(72)
        for cells in range(3, 9):
            for both in (False, True):
                table = ring(cells, both)
                self.assertFalse(self.same_as_the_fact(table))
                self.assertFalse(self.same_as_the_fact(filled_up(dice, table, 40)))
                least = ring(cells, both, [(cell, ()) for cell in range(cells)])
                self.assertFalse(self.same_as_the_fact(least))

    def test_a_ring_of_two_cells_is_a_row(self):
        self.assertTrue(self.same_as_the_fact(T))
        self.assertFalse(self.same_as_the_fact(F))

    def test_forks(self):
        dice = Dice(73)
        for cells in range(4, 9):
            for at in range(1, cells - 2):
                order = list(range(cells))
                for _ in range(20):
                    order.append(order.pop(dice.roll(cells)))
                stem, leaf = order[:-1], order[-1]
                pairs = [(a, b) for a, b in zip(stem, stem[1:])] + [(stem[at], leaf)]
                table = tied(cells, pairs + [(b, a) for a, b in pairs])
                self.assertFalse(self.same_as_the_fact(table))
                self.assertFalse(self.same_as_the_fact(filled_up(dice, table, 40)))

    def test_kinds_that_read_two_cells_of_a_row(self):
        dice = Dice(74)
        for cells in range(2, 8):
            order = list(range(cells))
            for at in range(cells - 1):
                for w in (at, at + 1):
                    table = row(order, 8, [(w, (at, at + 1))])
                    self.assertFalse(self.same_as_the_fact(table))
                    self.assertFalse(self.same_as_the_fact(filled_up(dice, table, 40)))
            for at in range(cells - 2):
                table = row(order, 8, [(at + 1, (at, at + 2))])
                self.assertFalse(self.same_as_the_fact(table))
                self.assertFalse(self.same_as_the_fact(filled_up(dice, table, 40)))
                self.assertFalse(self.same_as_the_fact(row(order, 8, [(at + 1, (at, at + 1, at + 2))])))
                self.assertFalse(self.same_as_the_fact(row(order, 8, [(at, (at, at + 1, at + 2))])))

    def test_the_kind_that_reads_two_cells_alone(self):
        """What goes through the knot goes through kinds that read two of its cells."""
        for order in permutations(range(3)):
            a, b, c = order
            self.assertFalse(self.same_as_the_fact(table_of(3, [(a, (b,)), (b, tuple(sorted((a, c)))), (c, (b,))])))
            two = [(a, tuple(sorted((a, b)))), (b, tuple(sorted((a, b)))), (c, (a,))]
            self.assertFalse(self.same_as_the_fact(table_of(3, two)))

    def test_drawn_tables_up_to_eight_cells(self):
        dice = Dice(75)
        seen = {True: 0, False: 0}
        for _ in range(150):
            seen[self.same_as_the_fact(some_table(dice, 1 + dice.roll(8), 1 + dice.roll(25)))] += 1
        self.assertGreater(min(seen.values()), 30)

    def test_knots_that_are_not_sound_beside_sound_ones(self):
        three = tied(8, [(3, 5), (5, 7), (7, 3), (0, 1), (1, 0), (1, 3), (0, 5)], [(5, (0, 1, 3)), (6, (0, 3, 5))])
        self.assertFalse(self.same_as_the_fact(three))
        self.assertTrue(self.same_as_the_fact(tied(8, BOTH, [(3, (0, 1, 2)), (4, (0, 3, 4)), (5, (4, 6, 7))])))

    def test_eight_cells_all_of_whose_knots_are_sound(self):
        dice = Dice(76)
        rows = [row((2, 0, 1, 3, 7, 5, 6, 4)), row((0, 1, 2, 3), 8, [(4, (0, 1, 2)), (5, (2, 3, 4)), (6, (5, 6))]),
                row((4, 1), 8, [(2, (1, 4, 7)), (5, (6,)), (6, (2, 5)), (3, (1, 2, 4)), (7, ())])]
        for table in rows + [filled_up(dice, table, 40) for table in rows]:
            self.assertTrue(self.same_as_the_fact(table))
            for deeds in (1, 5, 12, 12, 25, 25, 60, 200, 400):
                journal = some_journal(dice, table, deeds)
                self.assertFalse(sticks_by_hand(table, journal))
                self.assertIs(is_sticking(table, journal), False)

    def test_journals_of_400_deeds(self):
        journal = (0,) + (0, 1) * 199 + (0,)
        self.assertTrue(sticks_by_hand(F, journal))
        self.assertIs(is_sticking(F, journal), True)
        self.assertIs(is_sticking(F, journal + (0,)), False)
        self.assertIs(is_sticking(T, journal), False)


class JudgedTests(unittest.TestCase):
    def test_things_that_are_no_journals(self):
        self.assertIs(is_sticking(F, (0, 1, 0)), True)
        for wrong in ([0, 1, 0], (0, True, 0), (False, 1, 0), (0, 1, 0, 2), (0, 1, -1), "010", None, (0, 1, None),
                      ((0, 1, 0),), {0: 0, 1: 1, 2: 0}, b"\x00\x01\x00", (0, 1, "0"), F, 10 ** 59, (10 ** 59,)):
            self.assertIs(is_sticking(F, wrong), False)

    def test_things_of_every_kind(self):
        for table in (T, F, ring(3)):
            for thing in things():
                for some in (thing, (0, 1, thing), (thing, 1, 0)):
                    right = is_journal_by_hand(table, some) and sticks_by_hand(table, some)
                    self.assertIs(is_sticking(table, some), right)


if __name__ == "__main__":
    unittest.main()
