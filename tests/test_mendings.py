"""[13.1] with THE FACT OF MENDINGS, [13.2] with THE FACT OF TIES, and [0.3], [0.4] for laidplates.mendings."""

import unittest
from itertools import combinations, permutations

from helping import (F, T, Dice, changing_by_hand, is_number, knots_by_hand, raised, ring, row, some_table,
                     sound_by_hand, table_of, tables_of_two_cells, things, tied, ties_by_hand)
from laidplates.errors import NoNumber, NoPrices, TooMany
from laidplates.mendings import cheapest_mending, is_mending, mendings, most_ordered, most_ties, tied_table
from laidplates.sticking import never_sticks
from laidplates.sweeps import sweep_order
from laidplates.tables import Table

WIDE = ring(6, both=True)


def is_sound_by_hand(table, lot):
    left = tuple(kind for at, kind in enumerate(table.kinds) if at not in lot)
    if not left:
        return True
    other = Table(table.cells, left)
    return knots_by_hand(other) == sound_by_hand(other)


def bad_kinds_by_hand(table):
    sound = sound_by_hand(table)
    return [at for at, kind in enumerate(table.kinds) if not any(kind[0] in knot for knot in sound)]


def is_mending_by_hand(table, lot):
    if not is_sound_by_hand(table, lot):
        return False
    return not any(is_sound_by_hand(table, lot[:at] + lot[at + 1:]) for at in range(len(lot)))


def mendings_by_hand(table):
    """By going through all lots of kinds, fewest first."""
    numbers = range(len(table.kinds))
    return [lot for many in range(len(numbers) + 1) for lot in combinations(numbers, many)
            if is_mending_by_hand(table, lot)]


def some_small_tables(seed, many):
    dice = Dice(seed)
    return [some_table(dice, 1 + dice.roll(5), 8) for _ in range(many)]


class MendingTests(unittest.TestCase):
    def test_all_lots_of_kinds(self):
        found = 0
        for table in [T, F, ring(3), ring(4), row((0, 1, 2)), *some_small_tables(231, 60),
                      *[table for at, table in enumerate(tables_of_two_cells()) if at % 5 == 0]]:
            told = mendings(table)
            self.assertEqual(told, mendings_by_hand(table))
            self.assertIs(type(told), list)
            self.assertTrue(all(type(lot) is tuple for lot in told))
            found = max(found, len(told))
        self.assertGreater(found, 4)

    def test_is_mending_of_all_lots(self):
        for table in some_small_tables(232, 25):
            for many in range(len(table.kinds) + 1):
                for lot in combinations(range(len(table.kinds)), many):
                    self.assertIs(is_mending(table, lot), is_mending_by_hand(table, lot))

    def test_where_all_are_sound(self):
        for table in (T, row((0, 1, 2, 3)), Table(1, ((0, ()),)), tied_table(8)):
            self.assertEqual(mendings(table), [()])
            self.assertIs(is_mending(table, ()), True)
            self.assertIs(is_mending(table, (0,)), False)

    def test_all_kinds_may_have_to_go(self):
        table = Table(3, ((0, (1,)), (1, (2,)), (2, (0,))))
        self.assertEqual(mendings(table), [(0,), (1,), (2,)])
        self.assertIs(is_mending(table, (0, 1, 2)), False)
        self.assertEqual(mendings(F), [(0,), (1,)])

    def test_kinds_of_mendings_write_in_knots_that_are_not_sound(self):
        for table in some_small_tables(233, 60):
            bad = bad_kinds_by_hand(table)
            for lot in mendings(table):
                self.assertTrue(set(lot) <= set(bad))

    def test_too_many(self):
        ten = table_of(8, [(cell, {(cell + 1) % 3, at}) for cell in range(3) for at in range(3, 6)] + [(0, (1,))])
        self.assertEqual(len(bad_kinds_by_hand(ten)), 10)
        self.assertEqual(mendings(ten), mendings_by_hand(ten))
        eleven = Table(8, tuple(sorted({*ten.kinds, (0, (1, 7))})))
        self.assertEqual(len(bad_kinds_by_hand(eleven)), 11)
        for table in (eleven, WIDE):
            for prices in ((0,) * len(table.kinds), None):
                self.assertEqual(raised(cheapest_mending, table, prices).most, 10)
            error = raised(mendings, table)
            self.assertEqual((type(error), error.most), (TooMany, 10))

    def test_is_mending_where_there_are_too_many(self):
        dice = Dice(234)
        self.assertEqual(len(bad_kinds_by_hand(WIDE)), 12)
        self.assertIs(is_mending(WIDE, tuple(range(12))), False)
        self.assertIs(is_mending(WIDE, ()), False)
        seen = {True: 0, False: 0}
        for _ in range(120):
            lot = tuple(at for at in range(12) if dice.roll(3) == 0)
            while is_sound_by_hand(WIDE, lot) and not is_mending_by_hand(WIDE, lot) and dice.roll(10):
                lot = lot[1:]
            seen[is_mending_by_hand(WIDE, lot)] += 1
            self.assertIs(is_mending(WIDE, lot), is_mending_by_hand(WIDE, lot))
        self.assertGreater(min(seen.values()), 5)

    def test_is_mending_of_things(self):
        for table in (T, F, WIDE, ring(3)):
            for thing in [*things(), (0, 0), (1, 0), (-1,), (len(table.kinds),), [0], (True,), (0, True), {0: 0}]:
                right = type(thing) is tuple and len(thing) < 50 and all(map(is_number, thing))
                right = right and list(thing) == sorted(set(thing)) and all(at in range(len(table.kinds)) for at in thing)
                self.assertIs(is_mending(table, thing), bool(right) and is_mending_by_hand(table, thing))


class PriceTests(unittest.TestCase):
    def cheapest_by_hand(self, table, prices):
        best = None
        for lot in mendings_by_hand(table):
            cost = sum(prices[at] for at in lot)
            if best is None or cost < best[0]:
                best = cost, lot
        return best[1]

    def test_drawn_prices(self):
        dice = Dice(235)
        for table in some_small_tables(236, 60):
            for most in (1, 2, 3, 10, 10 ** 9):
                prices = tuple(dice.roll(most) for _ in table.kinds)
                self.assertEqual(cheapest_mending(table, prices), self.cheapest_by_hand(table, prices))

    def test_prices_that_are_alike(self):
        for table in some_small_tables(237, 40):
            for price in (0, 1, 10 ** 30):
                prices = (price,) * len(table.kinds)
                self.assertEqual(cheapest_mending(table, prices), mendings(table)[0])

    def test_great_prices(self):
        self.assertEqual(cheapest_mending(F, (10 ** 30, 10 ** 30 - 1)), (1,))
        self.assertEqual(cheapest_mending(F, (10 ** 30 - 1, 10 ** 30)), (0,))
        self.assertEqual(cheapest_mending(F, (10 ** 30, 10 ** 30)), (0,))

    def test_more_kinds_may_be_cheaper(self):
        pair = table_of(2, [(0, (0, 1)), (1, (0,)), (1, (0, 1))])
        self.assertEqual(mendings(pair), [(0,), (1, 2)])
        self.assertEqual(cheapest_mending(pair, (3, 1, 1)), (1, 2))
        self.assertEqual(cheapest_mending(pair, (2, 1, 1)), (0,))
        self.assertEqual(cheapest_mending(pair, (1, 1, 1)), (0,))

    def test_no_prices(self):
        wrong = [[1, 1], (1,), (1, 1, 1), (1, True), (False, 1), (-1, 1), (1, -1), (10 ** 30 + 1, 0), (0, 10 ** 60 - 1),
                 (None, 1), ("1", 1), ((), 1), None, 0, {0: 1, 1: 1}]
        for table in (F, T):
            for thing in wrong + things():
                if type(thing) is tuple and len(thing) == 2 and all(
                        is_number(price) and 0 <= price <= 10 ** 30 for price in thing):
                    self.assertIn(cheapest_mending(table, thing), mendings(table))
                else:
                    self.assertIs(type(raised(cheapest_mending, table, thing)), NoPrices)


class TieTests(unittest.TestCase):
    def webs(self, cells):
        """All webs of so many cells, as tuples of ties."""
        pairs = list(permutations(range(cells), 2))
        for bits in range(2 ** len(pairs)):
            yield tuple(pair for at, pair in enumerate(pairs) if bits >> at & 1)

    def is_ordered(self, cells, pairs):
        left = set(range(cells))
        while left:
            free = [w for w in left if not any(w == b and a in left for a, b in pairs)]
            if not free:
                return False
            left -= set(free)
        return True

    def test_all_webs(self):
        for cells in (1, 2, 3):
            most, ordered = 0, 0
            for pairs in self.webs(cells):
                table = tied(cells, pairs, [(cell, ()) for cell in range(cells)])
                self.assertEqual(ties_by_hand(table), set(pairs))
                if knots_by_hand(table) == sound_by_hand(table):
                    most = max(most, len(pairs))
                if self.is_ordered(cells, pairs):
                    ordered = max(ordered, len(pairs))
            self.assertEqual((most_ties(cells), most_ordered(cells)), (most, ordered))

    def test_all_webs_of_four_cells(self):
        """Those of more ties than can be have a knot that is not sound; fewer ties make nothing worse."""
        most, ordered = 0, 0
        for pairs in self.webs(4):
            if len(pairs) >= 6:
                if self.is_ordered(4, pairs):
                    ordered = max(ordered, len(pairs))
                if len(pairs) > most and never_sticks(tied(4, pairs, [(cell, ()) for cell in range(4)])):
                    most = len(pairs)
        self.assertEqual((most_ties(4), most_ordered(4)), (most, ordered))
        self.assertEqual((most, ordered), (8, 6))

    def test_sums(self):
        self.assertEqual((most_ties(5), most_ordered(5)), (12, 10))
        for cells in [*range(1, 40), 10 ** 30, 10 ** 30 - 1, 10 ** 15, 3 ** 60]:
            self.assertEqual(most_ordered(cells), sum(range(cells)) if cells < 40 else (cells - 1) * cells // 2)
            self.assertEqual(most_ties(cells), most_ordered(cells) + (cells - cells % 2) // 2)
            self.assertTrue(is_number(most_ties(cells)) and is_number(most_ordered(cells)))

    def test_no_number(self):
        for thing in [*things(), 0, -1, 10 ** 30 + 1, 10 ** 60 - 1, True, False, "1", None, (1,)]:
            right = is_number(thing) and 1 <= thing <= 10 ** 30
            for action in (most_ties, most_ordered):
                self.assertIs(type(raised(action, thing)), type(None) if right else NoNumber)
            right = is_number(thing) and 1 <= thing <= 8
            self.assertIs(type(raised(tied_table, thing)), type(None) if right else NoNumber)
        self.assertIs(type(raised(tied_table, 9)), NoNumber)

    def test_tied_tables(self):
        for cells in range(1, 9):
            table = tied_table(cells)
            self.assertEqual((type(table), table.cells), (Table, cells))
            self.assertEqual(knots_by_hand(table), sound_by_hand(table))
            self.assertEqual(len(ties_by_hand(table)), cells * (cells - 1) // 2 + cells // 2)
            self.assertEqual(changing_by_hand(table), list(range(cells)))
            self.assertEqual(table, tied_table(cells))

    def test_a_table_with_an_order_has_no_more(self):
        for cells in range(1, 9):
            table = table_of(cells, [(w, (r,)) for w in range(cells) for r in range(w)] + [(0, ())])
            if len(table.kinds) <= 40:
                self.assertEqual(len(ties_by_hand(table)), most_ordered(cells))
                self.assertIsNotNone(sweep_order(table))


if __name__ == "__main__":
    unittest.main()
