"""[4.3], and [0.3], [0.4] for laidplates.standings."""

import unittest
from math import comb

from helping import (F, T, Dice, all_journals, is_number, raised, ring, row, some_journal, some_table,
                     sticks_by_hand, tables_of_two_cells, things)
from laidplates.errors import NoNumber, TooMany
from laidplates.standings import count_sticking, shortest_sticking
from laidplates.tables import Table

MOST_LISTED = 2500


def listed(table):
    """For as many deeds as can be listed, ascending: the list of the journals that stick."""
    deeds, told = 0, []
    while len(table.kinds) ** deeds <= MOST_LISTED and deeds < 9:
        told.append([journal for journal in all_journals(table, deeds) if sticks_by_hand(table, journal)])
        deeds += 1
    return told


def first_of(lists):
    for journals in lists:
        if journals:
            return journals[0]
    return None


class ListedTests(unittest.TestCase):
    def same_as_listed(self, table):
        told = listed(table)
        self.assertEqual([count_sticking(table, deeds) for deeds in range(len(told))], list(map(len, told)))
        first, shortest = first_of(told), shortest_sticking(table)
        if first is None and shortest is not None:
            self.assertGreaterEqual(len(shortest), len(told))
            self.assertTrue(sticks_by_hand(table, shortest))
            self.assertGreater(count_sticking(table, len(shortest)), 0)
            self.assertEqual([count_sticking(table, deeds) for deeds in range(len(shortest))], [0] * len(shortest))
        else:
            self.assertEqual(shortest, first)
            self.assertIs(type(shortest), type(first))
        return first

    def test_tables_of_two_cells(self):
        for at, table in enumerate(tables_of_two_cells()):
            if len(table.kinds) < 4 or at % 6 == 0:
                self.same_as_listed(table)

    def test_tables_of_three_cells(self):
        dice = Dice(81)
        lengths = set()
        for _ in range(60):
            first = self.same_as_listed(some_table(dice, 3, 6))
            lengths.add(first and len(first))
        self.assertTrue(lengths.issuperset({None, 3, 4}))

    def test_rings_and_rows(self):
        self.assertEqual(len(self.same_as_listed(ring(3))), 4)
        self.assertEqual(len(self.same_as_listed(ring(3, True))), 4)
        self.assertIsNone(self.same_as_listed(row((1, 0, 2))))
        self.same_as_listed(row((1, 0, 2), 3, [(0, (1, 2))]))
        self.assertEqual(self.same_as_listed(Table(3, ((0, (1, 2)), (1, (0,)), (2, (0,))))), (0, 1, 2, 0))
        self.assertIsNone(self.same_as_listed(T))
        self.assertIsNone(self.same_as_listed(Table(1, ((0, ()), (0, (0,))))))

    def test_the_very_first_of_those_of_as_many(self):
        """Kinds that stand otherwise, but do the same, give the journal that is least by their numbers."""
        for more in ((), ((0, ()),), ((1, ()),), ((0, (0,)), (1, (1,)))):
            table = Table(2, tuple(sorted({*F.kinds, (1, (0, 1)), *more})))
            self.assertEqual(shortest_sticking(table), first_of(listed(table)))

    def test_cells_that_never_change(self):
        for still in range(3):
            a, b = [cell for cell in range(3) if cell != still]
            table = Table(3, tuple(sorted([(a, (a, b)), (b, (a,)), (b, tuple(sorted((a, still))))])))
            self.same_as_listed(table)


class CountTests(unittest.TestCase):
    """Of F just those journals stick that begin and end with the kind 0, with the kind 1 between."""

    def test_up_to_60_deeds(self):
        for many in range(61):
            right = 2 ** (many - 2) - 1 if many > 1 else 0
            self.assertEqual(count_sticking(F, many), right)
            self.assertIs(type(count_sticking(F, many)), int)

    def test_with_deeds_that_do_not_matter(self):
        table = Table(3, F.kinds + ((2, ()), (2, (0, 1, 2))))
        for many in (2, 3, 4, 10, 59, 60):
            right = sum(comb(many, own) * 2 ** (many - own) * (2 ** (own - 2) - 1) for own in range(2, many + 1))
            self.assertEqual(count_sticking(table, many), right)

    def test_none_sticks(self):
        for table in (T, row((0, 2, 1)), Table(1, ((0, (0,)),))):
            self.assertEqual([count_sticking(table, many) for many in range(61)], [0] * 61)
            self.assertIsNone(shortest_sticking(table))

    def test_drawn_journals_of_many_deeds(self):
        """A drawn part of all journals sticks about as often as all together do."""
        dice = Dice(82)
        table = ring(3)
        for many in (12, 30):
            drawn = [sticks_by_hand(table, some_journal(dice, table, many)) for _ in range(600)]
            self.assertLess(abs(sum(drawn) * 3 ** many - 600 * count_sticking(table, many)), 60 * 3 ** many)


class RefusalTests(unittest.TestCase):
    def test_more_than_three_cells(self):
        for cells in range(4, 9):
            table = Table(cells, F.kinds)
            error = raised(shortest_sticking, table)
            self.assertIs(type(error), TooMany)
            self.assertEqual(error.most, 3)
            for many in (0, 60, 61, -1, True, None, "3"):
                error = raised(count_sticking, table, many)
                self.assertIs(type(error), TooMany)
                self.assertEqual(error.most, 3)
        self.assertEqual(shortest_sticking(Table(3, F.kinds)), (0, 1, 0))

    def test_what_is_no_number(self):
        for wrong in (-1, 61, True, False, "3", (3,), [3], None, b"\x03", 10 ** 59, -10 ** 59, {3: 3}):
            self.assertIs(type(raised(count_sticking, F, wrong)), NoNumber)

    def test_things_of_every_kind(self):
        for thing in things():
            right = is_number(thing) and 0 <= thing <= 60
            for table in (T, F):
                self.assertIs(type(raised(count_sticking, table, thing)), type(None) if right else NoNumber)
                self.assertIs(type(raised(count_sticking, table, (thing,))), NoNumber)
            self.assertIs(type(raised(count_sticking, Table(4, T.kinds), thing)), TooMany)


if __name__ == "__main__":
    unittest.main()
