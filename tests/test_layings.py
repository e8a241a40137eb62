"""[3.1], [3.3], and [0.3], [0.4] for laidplates.layings."""

import unittest
from itertools import permutations, product

from helping import (F, T, WITH_DEAD_ENDS, Dice, check_refusals_of_safe_plates, is_journal_by_hand,
                     is_plates_by_hand, is_row_of_numbers, is_safe_by_hand, lost_by_hand, plates_of,
                     presents_by_hand, raised, some_cases, some_journal, some_table, things)
from laidplates.errors import NoCell, NoJournal, NoPlates, NotSafe
from laidplates.layings import at_once, count_layings, harmed, is_laying_out, lay_out
from laidplates.tables import Table, fresh

EIGHT = Table(8, tuple((cell, (cell,)) for cell in range(8)))


def laid_by_hand(table, journal, plates, lot):
    last = presents_by_hand(table, journal)
    return tuple(last[cell] if cell in lot else plates[cell] for cell in range(table.cells))


def to_lay_by_hand(table, journal, plates):
    last = presents_by_hand(table, journal)
    return tuple(cell for cell in range(table.cells) if plates[cell] != last[cell])


def goes(table, journal, plates, lots):
    """Whether the plates are safe behind each of these lots, laid one behind another."""
    for lot in lots:
        plates = laid_by_hand(table, journal, plates, lot)
        if not is_safe_by_hand(table, journal, plates):
            return False
    return True


def layings_by_hand(table, journal, plates):
    return [order for order in permutations(to_lay_by_hand(table, journal, plates))
            if goes(table, journal, plates, [(cell,) for cell in order])]


def ways_at_once(cells):
    """All tuples of lots, none empty, that lay each of the cells once."""
    for many in range(len(cells) + 1):
        for places in product(range(many), repeat=len(cells)):
            if set(places) == set(range(many)):
                yield tuple(tuple(cell for cell, place in zip(cells, places) if place == at) for at in range(many))


def widest(lots):
    return max(map(len, lots), default=0)


def safe_cases(seed, many, cells, deeds):
    """Cases with safe plates, fresh ones and others."""
    yield from WITH_DEAD_ENDS
    for table, journal, plates in some_cases(seed, many, cells, deeds):
        for some in (fresh(table), plates):
            if is_safe_by_hand(table, journal, some):
                yield table, journal, some


class HarmedTests(unittest.TestCase):
    def test_by_hand(self):
        empty = 0
        for table, journal, plates in some_cases(31, 120, 5, 15):
            for some in (plates, fresh(table)):
                for cell in range(table.cells):
                    hurt = lost_by_hand(table, journal, laid_by_hand(table, journal, some, (cell,)))
                    self.assertEqual(harmed(table, journal, some, cell), hurt)
                    empty += hurt == ()
        self.assertGreater(empty, 50)

    def test_lots_of_several_cells(self):
        table = Table(3, ((0, (0,)), (1, (0,)), (2, (0,))))
        self.assertEqual(harmed(table, (1, 2, 0), (-1, -2, -3), 0), (1, 2))
        self.assertEqual(harmed(table, (1, 2, 0), (-1, -2, -3), 1), ())
        self.assertEqual(harmed(table, (1, 2, 0), (-1, 0, -3), 0), (2,))

    def test_errors_in_their_order(self):
        for thing in things():
            if not is_journal_by_hand(T, thing):
                self.assertIs(type(raised(harmed, T, thing, (-1, -2), 0)), NoJournal)
                self.assertIs(type(raised(harmed, T, thing, thing, thing)), NoJournal)
            if not is_plates_by_hand(T, (0, 1), thing):
                self.assertIs(type(raised(harmed, T, (0, 1), thing, 0)), NoPlates)
                self.assertIs(type(raised(harmed, T, (0, 1), thing, 2)), NoPlates)
            if type(thing) is not int or thing not in (0, 1):
                self.assertIs(type(raised(harmed, T, (0, 1), (-1, -2), thing)), NoCell)
                self.assertIs(type(raised(harmed, T, (0, 1), (-1, 1), thing)), NoCell)
        for wrong in (-1, 2, 8, True, False, (0,), [0], "0", None):
            self.assertIs(type(raised(harmed, T, (0, 1), (-1, -2), wrong)), NoCell)


class LayingOutTests(unittest.TestCase):
    def test_against_all_orders(self):
        seen = {True: 0, False: 0}
        for table, journal, plates in safe_cases(32, 600, 4, 14):
            self.same_as_by_hand(table, journal, plates, seen)
        self.assertGreater(min(seen.values()), 20)

    def same_as_by_hand(self, table, journal, plates, seen):
        orders = layings_by_hand(table, journal, plates)
        seen[orders == []] += 1
        order = lay_out(table, journal, plates)
        self.assertEqual(order is None, orders == [])
        self.assertTrue(order is None or order in orders)
        self.assertIs(type(order), type(None) if orders == [] else tuple)
        self.assertEqual(order, lay_out(table, journal, plates))
        self.assertEqual(count_layings(table, journal, plates), len(orders))
        for thing in permutations(to_lay_by_hand(table, journal, plates)):
            self.assertIs(is_laying_out(table, journal, plates, thing), thing in orders)

    def test_all_safe_plates_of_small_journals(self):
        seen = {True: 0, False: 0}
        for table, journal, _ in some_cases(33, 60, 3, 6):
            for plates in plates_of(table, journal):
                if is_safe_by_hand(table, journal, plates):
                    self.same_as_by_hand(table, journal, plates, seen)

    def test_eight_cells(self):
        self.assertEqual(count_layings(EIGHT, tuple(range(8)), fresh(EIGHT)), 40320)
        self.assertEqual(sorted(lay_out(EIGHT, tuple(range(8)), fresh(EIGHT))), list(range(8)))
        reading_ahead = Table(8, tuple((cell, (max(cell - 1, 0),)) for cell in range(8)))
        self.forced(reading_ahead, tuple(reversed(range(8))))
        reading_behind = Table(8, tuple((cell, (min(cell + 1, 7),)) for cell in range(8)))
        self.forced(reading_behind, tuple(range(8)))

    def forced(self, table, order):
        """Each deed reads the beginning of the cell that is written next, so there is one order."""
        self.assertEqual(lay_out(table, order, fresh(table)), order)
        self.assertEqual(count_layings(table, order, fresh(table)), 1)
        self.assertIs(is_laying_out(table, order, fresh(table), order), True)
        self.assertIs(is_laying_out(table, order, fresh(table), order[:6] + order[:5:-1]), False)
        self.assertIs(is_laying_out(table, order, fresh(table), tuple(reversed(order))), False)

    def test_eight_cells_and_400_deeds(self):
        dice = Dice(34)
        table = some_table(dice, 8, 30)
        journal = some_journal(dice, table, 400)
        order = lay_out(table, journal, fresh(table))
        self.assertEqual(order is None, count_layings(table, journal, fresh(table)) == 0)
        self.assertTrue(order is None or is_laying_out(table, journal, fresh(table), order))

    def test_plates_that_hold_all_presents(self):
        for table, journal, _ in some_cases(35, 40, 5, 10):
            last = presents_by_hand(table, journal)
            self.assertEqual(lay_out(table, journal, last), ())
            self.assertIs(is_laying_out(table, journal, last, ()), True)
            self.assertIs(is_laying_out(table, journal, last, (0,)), False)
            self.assertEqual(count_layings(table, journal, last), 1)
            self.assertEqual(at_once(table, journal, last), ())

    def test_orders_that_are_none(self):
        table, journal, plates = EIGHT, (0, 1, 2), fresh(EIGHT)
        self.assertIs(is_laying_out(table, journal, plates, (2, 0, 1)), True)
        for wrong in ((), (0, 1), (1, 2), (0, 1, 1), (0, 1, 2, 2), (0, 1, 2, 3), (3, 0, 1, 2), [0, 1, 2],
                      (0, 1, -1), (False, True, 2), (0, True, 2), (False, 1, 2), ("0", 1, 2), ((0,), 1, 2), None,
                      (0, 1, None), {0: 0, 1: 1, 2: 2}, "012", b"\x00\x01\x02", range(3), (0, 1, 8), (EIGHT, 1, 2)):
            self.assertIs(is_laying_out(table, journal, plates, wrong), False, wrong)
        self.assertIs(is_laying_out(T, (0, 1), (-1, -2), (0, 1)), True)
        for wrong in ((1, 0), (0,), (1,), (False, True), (0, True), (0, 0)):
            self.assertIs(is_laying_out(T, (0, 1), (-1, -2), wrong), False, wrong)

    def test_things_of_every_kind(self):
        for table, journal, plates in ((T, (0, 1), (-1, -2)), (T, (0, 1), (0, 1)), (EIGHT, (0, 1, 2), fresh(EIGHT))):
            orders = layings_by_hand(table, journal, plates)
            for thing in things():
                for some in (thing, (thing,), (0, thing), (thing, 1)):
                    right = is_row_of_numbers(some) and some in orders
                    self.assertIs(is_laying_out(table, journal, plates, some), right)


class RefusalTests(unittest.TestCase):
    def test_errors_in_their_order(self):
        for action, more in ((lay_out, ()), (count_layings, ()), (at_once, ()), (is_laying_out, ((0, 1),)),
                             (is_laying_out, (None,))):
            check_refusals_of_safe_plates(self, action, *more)
            self.assertIs(type(raised(action, F, (0, 1, 0), (2, -2), *more)), NotSafe)


class AtOnceTests(unittest.TestCase):
    def test_against_all_ways(self):
        widths = {}
        for table, journal, plates in safe_cases(36, 250, 4, 14):
            cells = to_lay_by_hand(table, journal, plates)
            lots = at_once(table, journal, plates)
            least = min(widest(some) for some in ways_at_once(cells) if goes(table, journal, plates, some))
            self.assertIs(type(lots), tuple)
            self.assertIn(lots, list(ways_at_once(cells)))
            self.assertTrue(goes(table, journal, plates, lots))
            self.assertEqual(widest(lots), least)
            self.assertEqual(lots, at_once(table, journal, plates))
            widths[least] = widths.get(least, 0) + 1
        self.assertGreater(widths.get(2, 0), 5)

    def test_wider_lots(self):
        for cells in range(2, 9):
            ring = Table(cells, tuple((cell, ((cell + 1) % cells,)) for cell in range(cells)))
            journal = tuple(range(cells)) * 2
            lots = at_once(ring, journal, fresh(ring))
            self.assertTrue(goes(ring, journal, fresh(ring), lots))
            self.assertEqual(sorted(cell for lot in lots for cell in lot), list(range(cells)))
            if cells < 6:
                least = min(widest(some) for some in ways_at_once(tuple(range(cells)))
                            if goes(ring, journal, fresh(ring), some))
                self.assertEqual(widest(lots), least)

    def test_ways_that_lead_nowhere(self):
        for case in WITH_DEAD_ENDS:
            orders = layings_by_hand(*case)
            self.assertIn(lay_out(*case), orders)
            self.assertEqual(count_layings(*case), len(orders))
            self.assertEqual(widest(at_once(*case)), 1)

    def test_one_by_one_just_if_there_is_a_laying_out(self):
        for table, journal, plates in safe_cases(37, 60, 7, 25):
            lots = at_once(table, journal, plates)
            self.assertEqual(widest(lots) <= 1, lay_out(table, journal, plates) is not None)
            self.assertTrue(goes(table, journal, plates, lots))


if __name__ == "__main__":
    unittest.main()
