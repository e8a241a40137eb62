"""[6.1], and [0.3], [0.4] for laidplates.places."""

import unittest
from itertools import permutations

from helping import (F, T, Dice, all_journals, all_lots, begins, filled_up, goes_kept, is_journal_by_hand,
                     is_row_of_numbers, knots_by_hand, presents_by_hand, raised, ring, row, some_journal, some_table,
                     sound_by_hand, sticks_by_hand, tables_of_two_cells, things, tied)
from laidplates.errors import NoJournal, NoLot
from laidplates.places import fewest_places, is_enough, lay_out_kept, sticking_kept
from laidplates.standings import shortest_sticking
from laidplates.tables import Table

WRONG_LOTS = ((2,), (0, 2), (0, 0), (1, 0), (-1,), (-1, 0), (True,), (False,), (False, True), (0, True), [0], [],
              "0", 0, None, {0: 1}, ((0,),), ("0",), (None,), (0, "1"), b"", range(1), (10 ** 59,))


def is_lot_by_hand(table, thing):
    return is_row_of_numbers(thing) and thing in all_lots(table.cells)


def orders_by_hand(table, journal, lot):
    last = presents_by_hand(table, journal)
    cells = [cell for cell in range(table.cells) if last[cell] >= 0]
    return [order for order in permutations(cells) if goes_kept(table, journal, begins(table), order, lot)]


def lots_enough_by_hand(table, lots):
    good = sound_by_hand(table)
    bad = [knot for knot in knots_by_hand(table) if knot not in good]
    return [lot for lot in lots if all(len(set(knot) - set(lot)) < 2 for knot in bad)]


class LayOutKeptTests(unittest.TestCase):
    def test_against_all_orders(self):
        dice = Dice(101)
        seen = {True: 0, False: 0}
        for _ in range(160):
            table = some_table(dice, 1 + dice.roll(4), 6)
            journal = some_journal(dice, table, dice.roll(14))
            for lot in all_lots(table.cells):
                orders = orders_by_hand(table, journal, lot)
                order = lay_out_kept(table, journal, lot)
                seen[order is None] += 1
                self.assertIs(type(order), tuple if orders else type(None))
                self.assertTrue(order is None or order in orders)
                self.assertEqual(order, lay_out_kept(table, journal, lot))
        self.assertGreater(min(seen.values()), 10)

    def test_drawn_journals_of_eight_cells(self):
        dice = Dice(102)
        for deeds in (10, 20, 20, 40, 100, 400):
            table = some_table(dice, 8, 40)
            journal = some_journal(dice, table, deeds)
            for lot in ((), (0, 3, 5), (1, 2, 4, 6, 7), tuple(range(8))):
                order = lay_out_kept(table, journal, lot)
                self.assertEqual(order is None, sticks_by_hand(table, journal, lot))
                self.assertTrue(order is None or goes_kept(table, journal, begins(table), order, lot))

    def test_the_empty_lot_and_the_lot_of_all_cells(self):
        journal = (0, 1, 0)
        self.assertIsNone(lay_out_kept(F, journal, ()))
        for lot in ((0,), (1,), (0, 1)):
            order = lay_out_kept(F, journal, lot)
            self.assertEqual(sorted(order), [0, 1])
            self.assertTrue(goes_kept(F, journal, begins(F), order, lot))
        self.assertEqual(lay_out_kept(F, journal, (0,))[0], 0)
        self.assertEqual(lay_out_kept(F, journal, (1,))[0], 1)
        self.assertEqual(lay_out_kept(F, (), (0, 1)), ())
        self.assertEqual(lay_out_kept(F, (), ()), ())
        self.assertEqual(lay_out_kept(F, (1,), ()), (1,))

    def test_elder_copies_stay(self):
        """The cell 0 is read by both others, so it is laid last, or has a second place."""
        table = Table(3, ((0, ()), (1, (0,)), (2, (0,))))
        self.assertEqual(lay_out_kept(table, (1, 2, 0), ())[-1], 0)
        self.assertEqual(lay_out_kept(table, (1, 2, 0), (1, 2))[-1], 0)
        self.assertTrue(goes_kept(table, (1, 2, 0), begins(table), (0, 1, 2), (0,)))

    def test_errors_in_their_order(self):
        for thing in things():
            if not is_journal_by_hand(F, thing):
                self.assertIs(type(raised(lay_out_kept, F, thing, (0,))), NoJournal)
                self.assertIs(type(raised(lay_out_kept, F, thing, thing)), NoJournal)
                self.assertIs(type(raised(lay_out_kept, F, thing, (0, 0))), NoJournal)
            if not is_lot_by_hand(F, thing):
                self.assertIs(type(raised(lay_out_kept, F, (0, 1), thing)), NoLot)
                self.assertIs(type(raised(lay_out_kept, F, [0, 1], thing)), NoJournal)
            else:
                self.assertEqual(sorted(lay_out_kept(F, (0, 1), thing)), [0, 1])
        for wrong in WRONG_LOTS:
            self.assertIs(type(raised(lay_out_kept, F, (0, 1), wrong)), NoLot, wrong)
            self.assertIs(type(raised(lay_out_kept, F, (), wrong)), NoLot, wrong)
            self.assertIs(type(raised(lay_out_kept, F, (2,), wrong)), NoJournal, wrong)


class EnoughTests(unittest.TestCase):
    def same_as_the_fact(self, table, lots):
        enough = lots_enough_by_hand(table, lots)
        for lot in lots:
            self.assertIs(is_enough(table, lot), lot in enough)
            journal = sticking_kept(table, lot)
            if lot in enough:
                self.assertIsNone(journal)
            else:
                self.assertTrue(is_journal_by_hand(table, journal))
                self.assertTrue(sticks_by_hand(table, journal, lot))
                self.assertIsNone(lay_out_kept(table, journal, lot))
        self.assertEqual(sticking_kept(table, lots[0]), sticking_kept(Table(table.cells, table.kinds), lots[0]))
        if len(lots) == 2 ** table.cells:
            self.assertEqual(fewest_places(table), min(map(len, enough)))
            self.assertIs(type(fewest_places(table)), int)

    def test_all_tables_of_two_cells_and_all_journals_of_few_deeds(self):
        for table in tables_of_two_cells():
            self.same_as_the_fact(table, all_lots(2))
            for lot in all_lots(2):
                some = any(sticks_by_hand(table, journal, lot) for journal in all_journals(table, 3))
                self.assertIs(is_enough(table, lot), not some)

    def test_drawn_tables_of_few_cells(self):
        dice = Dice(103)
        for _ in range(80):
            table = some_table(dice, 1 + dice.roll(4), 9)
            self.same_as_the_fact(table, all_lots(table.cells))
            for _ in range(3):
                journal = some_journal(dice, table, 10)
                for lot in all_lots(table.cells):
                    self.assertTrue(not is_enough(table, lot) or not sticks_by_hand(table, journal, lot))

    def test_drawn_tables_up_to_eight_cells(self):
        dice = Dice(104)
        for _ in range(12):
            table = some_table(dice, 5 + dice.roll(4), 12)
            self.same_as_the_fact(table, all_lots(table.cells))

    def test_all_but_two_cells_of_a_knot(self):
        dice = Dice(105)
        tables = [ring(cells, both) for cells in (3, 4, 5, 8) for both in (False, True)]
        stem = [(cell, cell + 1) for cell in range(6)]
        for at in (1, 3):
            tables.append(tied(8, [*stem, *[(b, a) for a, b in stem], (at, 7), (7, at)]))
        for at in (0, 3):
            tables.append(row(range(7), 8, [(at, (at, at + 1))]))
            tables.append(row(range(7), 8, [(at + 1, (at, at + 2))]))
        tables += [filled_up(dice, table, 40) for table in tables[::2]]
        for table in tables:
            lots = [lot for lot in all_lots(table.cells) if len(lot) in (table.cells - 2, table.cells - 1)]
            self.same_as_the_fact(table, lots)
            self.assertEqual(fewest_places(table), max(map(len, knots_by_hand(table))) - 1)

    def test_several_knots(self):
        table = tied(7, [(0, 1), (1, 2), (2, 0), (3, 4), (4, 3), (5, 6), (6, 5), (0, 3)], [(3, (3, 4)), (5, (0, 3))])
        self.same_as_the_fact(table, all_lots(7))
        self.assertEqual(fewest_places(table), 3)
        self.assertIs(is_enough(table, (0, 2, 4)), True)
        self.assertIs(is_enough(table, (0, 1, 2)), False)
        self.assertIs(is_enough(table, (0, 1, 2, 3, 5, 6)), True)

    def test_cells_that_never_change_help_nothing(self):
        table = Table(4, F.kinds)
        self.assertIs(is_enough(table, (2, 3)), False)
        self.assertIs(is_enough(table, (1, 2, 3)), True)
        self.assertEqual(fewest_places(table), 1)

    def test_no_places_are_needed(self):
        for table in (T, row((1, 0, 3, 2)), Table(1, ((0, (0,)),))):
            self.assertEqual(fewest_places(table), 0)
            self.assertIs(is_enough(table, ()), True)
            self.assertIsNone(sticking_kept(table, ()))

    def test_the_shortest_journals_that_stick(self):
        for table in (F, ring(3), ring(3, True)):
            journal = shortest_sticking(table)
            for lot in all_lots(table.cells):
                self.assertTrue(is_enough(table, lot) <= (lay_out_kept(table, journal, lot) is not None))

    def test_what_is_no_lot(self):
        for table in (T, F):
            for wrong in WRONG_LOTS:
                self.assertIs(is_enough(table, wrong), False, wrong)
                self.assertIs(type(raised(sticking_kept, table, wrong)), NoLot, wrong)
        for thing in things():
            for some in (thing, (thing,), (0, thing), (thing, 1)):
                right = is_lot_by_hand(F, some)
                self.assertIs(is_enough(F, some), right and len(some) > 0)
                self.assertIs(is_enough(T, some), right)
                self.assertIs(type(raised(sticking_kept, F, some)), type(None) if right else NoLot)


if __name__ == "__main__":
    unittest.main()
