"""[7.1], and [0.3], [0.4] for laidplates.sweeps."""

import unittest
from itertools import permutations, product

from helping import (F, T, Dice, all_come_back, begins, ends_by_hand, is_number, is_row_of_numbers, knots_by_hand,
                     raised, ring, row, some_table, tables_of_two_cells, things, tied, ties_by_hand)
from laidplates.errors import NoOrder, NoWeaving
from laidplates.sweeps import is_sweep_order, is_whole, spoiling, sweep_order, swept
from laidplates.tables import Table

SWEEP = ("sweep",)
ONE_WAY = Table(2, ((0, ()), (1, (0,))))


def is_order_by_hand(table, thing):
    return is_row_of_numbers(thing) and sorted(thing) == list(range(table.cells))


def is_step_by_hand(table, thing):
    if type(thing) is not tuple or thing == () or type(thing[0]) is not str:
        return False
    if thing[0] == "sweep":
        return len(thing) == 1
    return thing[0] == "do" and len(thing) == 2 and is_number(thing[1]) and thing[1] in range(len(table.kinds))


def end_by_hand(table, order, thing):
    """The pair behind a weaving, or None for what is none."""
    if type(thing) is not tuple or len(thing) > 400 or not all(is_step_by_hand(table, step) for step in thing):
        return None
    if thing.count(SWEEP) != table.cells:
        return None
    places = [at for at, step in enumerate(thing) if step == SWEEP]
    second = list(begins(table))
    for cell, place in zip(order, places):
        ahead = [step[1] for step in thing[:place] if step != SWEEP]
        second[cell] = ends_by_hand(table, ahead)[1][cell]
    return tuple(step[1] for step in thing if step != SWEEP), tuple(second)


def is_whole_by_hand(table, order, thing):
    end = end_by_hand(table, order, thing)
    return end is not None and all_come_back(*ends_by_hand(table, end[0]), end[1])


def is_sweep_order_by_hand(table, order):
    return all(order.index(r) < order.index(w) for r, w in ties_by_hand(table))


def some_weaving(dice, table, deeds):
    steps = [("do", dice.roll(len(table.kinds))) for _ in range(deeds)]
    for _ in range(table.cells):
        steps.insert(dice.roll(len(steps) + 1), SWEEP)
    return tuple(steps)


def some_order(dice, cells):
    left = list(range(cells))
    return tuple(left.pop(dice.roll(len(left))) for _ in range(cells))


class WeavingTests(unittest.TestCase):
    def same_as_by_hand(self, table, order, thing):
        end = end_by_hand(table, order, thing)
        whole = is_whole_by_hand(table, order, thing)
        self.assertIs(is_whole(table, order, thing), whole)
        if end is None:
            self.assertIs(type(raised(swept, table, order, thing)), NoWeaving)
        else:
            self.assertEqual(swept(table, order, thing), end)
            self.assertIs(type(swept(table, order, thing)), tuple)
        return whole

    def test_all_weavings_of_few_steps(self):
        told = set()
        for table in (T, F, ONE_WAY):
            steps = [SWEEP] + [("do", number) for number in range(len(table.kinds))]
            for order in ((0, 1), (1, 0)):
                for many in range(6):
                    for weaving in product(steps, repeat=many):
                        told.add(self.same_as_by_hand(table, order, weaving))
        self.assertEqual(told, {True, False})

    def test_drawn_weavings(self):
        dice = Dice(121)
        told = {True: 0, False: 0}
        for _ in range(500):
            table = some_table(dice, 1 + dice.roll(8), 10)
            order = some_order(dice, table.cells)
            told[self.same_as_by_hand(table, order, some_weaving(dice, table, dice.roll(30)))] += 1
        self.assertGreater(min(told.values()), 30)

    def test_step_by_step(self):
        weaving = (("do", 0), SWEEP, ("do", 1), ("do", 0), SWEEP, ("do", 1))
        self.assertEqual(swept(T, (0, 1), weaving), ((0, 1, 0, 1), (0, 1)))
        self.assertEqual(swept(T, (1, 0), weaving), ((0, 1, 0, 1), (2, -2)))
        self.assertEqual(swept(T, (1, 0), (SWEEP, SWEEP)), ((), (-1, -2)))
        self.assertIs(is_whole(T, (1, 0), (SWEEP, SWEEP)), True)
        self.assertIs(is_whole(ONE_WAY, (1, 0), (SWEEP, ("do", 1), ("do", 0), SWEEP)), False)
        self.assertIs(is_whole(ONE_WAY, (0, 1), (SWEEP, ("do", 1), ("do", 0), SWEEP)), True)

    def test_400_steps_and_401(self):
        dice = Dice(122)
        for table in (T, F, ring(3), row((0, 2, 1), 8)):
            order = some_order(dice, table.cells)
            for _ in range(3):
                weaving = some_weaving(dice, table, 400 - table.cells)
                self.assertEqual(len(weaving), 400)
                self.same_as_by_hand(table, order, weaving)
                self.assertIs(is_whole(table, order, weaving + (("do", 0),)), False)
                self.assertIs(type(raised(swept, table, order, weaving + (("do", 0),))), NoWeaving)
        whole = (("do", 1),) * 398 + (SWEEP, SWEEP)
        self.assertIs(is_whole(T, (1, 0), whole), True)
        self.assertIs(is_whole(T, (1, 0), (("do", 1),) + whole), False)

    def test_what_is_no_weaving(self):
        right = (("do", 0), SWEEP, SWEEP)
        self.assertIs(is_whole(T, (0, 1), right), True)
        for wrong in ((), (SWEEP,), right + (SWEEP,), right[:2], list(right), None, "sweep", SWEEP, {SWEEP: 0}, 0):
            self.assertIs(self.same_as_by_hand(T, (0, 1), wrong), False)
        for step in (("sweep", 0), ("sweep", None), ("do", 2), ("do", -1), ("do", True), ("do", False), ["do", 0],
                     ["sweep"], "sweep", ("do",), ("do", 0, 0), ("lay", 0), (), 0, None, ("swept",), (b"sweep",),
                     (b"do", 0), (SWEEP,), ("do", "0"), ("do", (0,)), ("do", None), ("do", 10 ** 59), ("Sweep",)):
            for wrong in (right + (step,), (step,) + right, (("do", 0), step, SWEEP)):
                self.assertIs(self.same_as_by_hand(T, (0, 1), wrong), False, step)

    def test_orders_ahead_of_weavings(self):
        right = (("do", 0), SWEEP, SWEEP)
        for wrong in ((0,), (1,), (0, 0), (1, 1), (0, 1, 0), (0, 2), (1, 2), (-1, 0), (0, True), (False, 1),
                      (False, True), [0, 1], [1, 0], "01", None, 0, {0: 1, 1: 0}, (), ((0, 1),), ("0", "1"),
                      (0, None), b"\x00\x01", range(2), (0, 10 ** 59)):
            for weaving in (right, None, (SWEEP,), right + (SWEEP,)):
                self.assertIs(type(raised(is_whole, T, wrong, weaving)), NoOrder, wrong)
                self.assertIs(type(raised(swept, T, wrong, weaving)), NoOrder, wrong)
            self.assertIs(type(raised(spoiling, T, wrong)), NoOrder, wrong)
            self.assertIs(is_sweep_order(T, wrong), False, wrong)
            self.assertIs(is_sweep_order(Table(2, ((0, ()),)), wrong), False, wrong)

    def test_things_of_every_kind(self):
        for thing in things():
            for some in (thing, (thing,), (0, thing), (thing, 1)):
                if is_order_by_hand(T, some):
                    self.assertIsNone(raised(spoiling, T, some))
                    self.assertIs(is_sweep_order(T, some), False)
                    self.assertIs(is_sweep_order(ONE_WAY, some), some == (0, 1))
                else:
                    self.assertIs(type(raised(spoiling, T, some)), NoOrder)
                    self.assertIs(type(raised(is_whole, T, some, (SWEEP, SWEEP))), NoOrder)
                    self.assertIs(type(raised(swept, T, some, some)), NoOrder)
                    self.assertIs(is_sweep_order(ONE_WAY, some), False)
            for some in (thing, (SWEEP, SWEEP, thing), (SWEEP, thing), (SWEEP, SWEEP, ("do", thing)),
                         (SWEEP, (thing,)), (SWEEP, SWEEP, (thing, 0)), (SWEEP, ("sweep", thing)), ((thing,), SWEEP)):
                self.same_as_by_hand(T, (0, 1), some)


class OrderTests(unittest.TestCase):
    def same_as_the_fact(self, table):
        """The least order, or None."""
        right = [order for order in permutations(range(table.cells)) if is_sweep_order_by_hand(table, order)]
        told = sweep_order(table)
        self.assertEqual(told, right[0] if right else None)
        self.assertIs(type(told), tuple if right else type(None))
        self.assertEqual(right != [], max(map(len, knots_by_hand(table))) == 1)
        return right

    def every_order(self, table, right, step=1):
        for order in list(permutations(range(table.cells)))[::step]:
            self.assertIs(is_sweep_order(table, order), order in right)
            weaving = spoiling(table, order)
            self.assertEqual(weaving, spoiling(Table(table.cells, table.kinds), tuple(list(order))))
            if order in right:
                self.assertIsNone(weaving)
            else:
                self.assertIsNotNone(end_by_hand(table, order, weaving))
                self.assertFalse(is_whole_by_hand(table, order, weaving))
                self.assertIs(is_whole(table, order, weaving), False)

    def test_all_tables_of_two_cells(self):
        for table in tables_of_two_cells():
            right = self.same_as_the_fact(table)
            self.every_order(table, right)
            steps = [SWEEP] + [("do", number) for number in range(len(table.kinds))]
            if len(steps) < 6:
                weavings = [some for some in product(steps, repeat=4) if some.count(SWEEP) == 2]
                for order in ((0, 1), (1, 0)):
                    all_whole = all(is_whole_by_hand(table, order, weaving) for weaving in weavings)
                    self.assertIs(is_sweep_order(table, order), all_whole)

    def test_drawn_tables(self):
        dice = Dice(123)
        told = {True: 0, False: 0}
        for _ in range(150):
            table = some_table(dice, 1 + dice.roll(5), 5)
            right = self.same_as_the_fact(table)
            told[right == []] += 1
            self.every_order(table, right)
            for order in right[:3]:
                for deeds in (5, 12):
                    self.assertIs(is_whole(table, order, some_weaving(dice, table, deeds)), True)
        self.assertGreater(min(told.values()), 20)

    def test_the_least_of_many_orders(self):
        self.assertEqual(sweep_order(Table(4, ((0, (1,)), (1, (3,)), (2, ()), (3, ())))), (2, 3, 1, 0))
        self.assertEqual(sweep_order(Table(4, ((0, (2,)), (1, ()), (2, ()), (3, (0,))))), (1, 2, 0, 3))
        self.assertEqual(sweep_order(tied(5, [(4, 0), (4, 3), (3, 1)])), (2, 4, 0, 3, 1))
        self.same_as_the_fact(tied(6, [(5, 0), (4, 1), (3, 2)]))
        self.same_as_the_fact(tied(6, [(5, 0), (0, 4), (4, 2), (5, 1)]))

    def test_cells_that_never_change_and_cells_that_read_themselves(self):
        table = Table(4, ((0, (1, 2)), (1, (1, 3))))
        self.every_order(table, self.same_as_the_fact(table))
        self.assertEqual(sweep_order(table), (1, 0, 2, 3))
        self.assertEqual(sweep_order(Table(3, ((0, (0, 1, 2)),))), (0, 1, 2))

    def test_eight_cells(self):
        down = tied(8, [(cell + 1, cell) for cell in range(7)])
        self.assertEqual(sweep_order(down), tuple(reversed(range(8))))
        self.assertIs(is_sweep_order(down, tuple(range(8))), False)
        self.every_order(down, [tuple(reversed(range(8)))], 499)
        self.assertIsNone(sweep_order(ring(8)))
        self.every_order(ring(8), [], 499)
        self.assertEqual(sweep_order(Table(8, ((0, ()),))), tuple(range(8)))
        self.assertIsNone(sweep_order(tied(8, [(6, 7), (7, 6)])))


if __name__ == "__main__":
    unittest.main()
