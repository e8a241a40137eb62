"""[5.1], [5.2], and [0.3], [0.4] for laidplates.runs."""

import unittest
from itertools import permutations, product

from helping import (F, T, Dice, all_come_back, begins, can_lay_out, ends_by_hand, filled_up, is_number,
                     is_plain_by_hand, is_settled_by_hand, open_row, presents_by_hand, raised, ring, row, some_table,
                     table_of, tables_of_two_cells, things, tied)
from laidplates.errors import NoRun, NotPlain
from laidplates.runs import behind, is_plain, is_run, is_stuck_run, never_stuck, stuck_run
from laidplates.tables import Table


def is_step_by_hand(table, thing):
    if type(thing) is not tuple or len(thing) != 2 or type(thing[0]) is not str or not is_number(thing[1]):
        return False
    ends = {"do": len(table.kinds), "lay": table.cells}
    return thing[0] in ends and thing[1] in range(ends[thing[0]])


def end_by_hand(table, thing):
    """The pair behind a run, or None for what is none, looking behind each step."""
    if type(thing) is not tuple or len(thing) > 400:
        return None
    journal, plates = [], list(begins(table))
    for step in thing:
        if not is_step_by_hand(table, step):
            return None
        if step[0] == "do":
            journal.append(step[1])
        else:
            plates[step[1]] = ends_by_hand(table, journal)[1][step[1]]
        rows, last = ends_by_hand(table, journal)
        if not all_come_back(rows, last, plates):
            return None
    return tuple(journal), tuple(plates)


def is_stuck_by_hand(table, thing):
    end = end_by_hand(table, thing)
    return end is not None and not can_lay_out(table, end[0], end[1])


def some_run(dice, table, steps, lays):
    """A drawn run; a laying that would harm is left out."""
    run = ()
    for _ in range(steps):
        step = ("lay", dice.roll(table.cells)) if dice.roll(10) < lays else ("do", dice.roll(len(table.kinds)))
        if end_by_hand(table, run + (step,)) is not None:
            run += (step,)
    return run


class RunTests(unittest.TestCase):
    def same_as_by_hand(self, table, thing):
        end = end_by_hand(table, thing)
        self.assertIs(is_run(table, thing), end is not None)
        if end is None:
            self.assertIs(type(raised(behind, table, thing)), NoRun)
        else:
            self.assertEqual(behind(table, thing), end)
            self.assertIs(type(behind(table, thing)), tuple)
        self.assertIs(is_stuck_run(table, thing), is_stuck_by_hand(table, thing))
        return end

    def test_all_runs_of_few_steps(self):
        for table in (T, F, Table(2, ((0, ()), (1, (0, 1))))):
            steps = [("do", number) for number in range(len(table.kinds))] + [("lay", 0), ("lay", 1)]
            ended = [self.same_as_by_hand(table, run) for many in range(6) for run in product(steps, repeat=many)]
            self.assertIn(None, ended)

    def test_drawn_runs(self):
        dice = Dice(91)
        seen = {True: 0, False: 0}
        for _ in range(250):
            table = some_table(dice, 2 + dice.roll(4), 8)
            run = some_run(dice, table, 20, dice.roll(6))
            self.assertIsNotNone(self.same_as_by_hand(table, run))
            seen[is_stuck_run(table, run)] += 1
            further = [("lay", cell) for cell in range(table.cells)] + [("do", 0)]
            for step in further:
                self.same_as_by_hand(table, run + (step,))
            self.same_as_by_hand(table, run[:3] + (further[0],) + run[4:])
        self.assertGreater(min(seen.values()), 20)

    def test_step_by_step(self):
        self.assertEqual(behind(T, ()), ((), (-1, -2)))
        self.assertEqual(behind(T, (("do", 0), ("do", 1), ("lay", 0))), ((0, 1), (0, -2)))
        self.assertEqual(behind(T, (("do", 0), ("lay", 0), ("do", 0), ("do", 1), ("lay", 0))), ((0, 0, 1), (1, -2)))
        self.assertIs(is_run(T, (("do", 0), ("do", 1), ("lay", 1))), False)
        self.assertIs(is_run(T, (("do", 0), ("do", 1), ("lay", 1), ("lay", 0))), False)
        self.assertIs(is_run(T, (("do", 0), ("do", 1), ("lay", 0), ("lay", 1))), True)

    def test_layings_of_what_lies_there(self):
        for run in ((("lay", 0),), (("lay", 1), ("lay", 1), ("do", 0)), (("do", 0), ("lay", 0), ("lay", 0))):
            self.assertIsNotNone(self.same_as_by_hand(T, run))

    def test_steps_that_are_none(self):
        for ahead in ((), (("do", 0),), (("do", 1), ("lay", 1))):
            for wrong in (("undo", 0), ("sweep", 0), ("Do", 0), ("lay ", 0), (b"do", 0), (0, "do"), ("do", 2),
                          ("lay", 2), ("do", -1), ("lay", -1), ("do", True), ("lay", False), ["do", 0], ["lay", 0],
                          ("do",), ("lay",), ("do", 0, 0), ("lay", 0, 0), (), "do", 0, None, ("do", "0"),
                          ("lay", None), (("do", 0),), ("do", (0,)), {"do": 0}, ("", 0), ("do", 10 ** 59)):
                self.assertIs(is_run(T, ahead + (wrong,)), False, wrong)
                self.assertIs(is_stuck_run(T, ahead + (wrong,)), False, wrong)
                self.assertIs(type(raised(behind, T, ahead + (wrong,))), NoRun, wrong)
                self.assertIs(is_run(T, ahead + (wrong, ("do", 0))), False, wrong)

    def test_things_that_are_no_tuples(self):
        for wrong in ([("do", 0)], [], "do", None, {("do", 0): 0}, ("do", 0), 0, {}):
            self.assertIs(is_run(T, wrong), False, wrong)
            self.assertIs(type(raised(behind, T, wrong)), NoRun, wrong)

    def test_400_steps_and_401(self):
        for run in ((("do", 0), ("lay", 0), ("do", 1), ("lay", 1)) * 100, (("do", 0), ("do", 1)) * 200,
                    (("lay", 1),) * 400):
            self.assertEqual(behind(T, run), end_by_hand(T, run))
            self.assertIs(is_run(T, run), True)
            for more in (run + (("do", 0),), run + (("lay", 0),)):
                self.assertIs(is_run(T, more), False)
                self.assertIs(is_stuck_run(T, more), False)
                self.assertIs(type(raised(behind, T, more)), NoRun)
        stuck = (("do", 0), ("do", 1)) * 199 + (("do", 0),)
        self.assertIs(is_stuck_run(F, (("lay", 0),) + stuck), True)
        self.assertIs(is_stuck_run(F, (("lay", 0),) * 2 + stuck), False)

    def test_stuck_runs(self):
        stuck = (("do", 0), ("do", 1), ("do", 0))
        self.assertIs(is_stuck_run(F, stuck), True)
        self.assertIs(is_stuck_run(F, stuck[:2]), False)
        self.assertIs(is_stuck_run(F, stuck[:1] + (("lay", 0),) + stuck[1:]), False)
        self.assertIs(is_stuck_run(F, stuck + (("lay", 0),)), False)
        self.assertIs(is_stuck_run(F, list(stuck)), False)
        self.assertIs(is_stuck_run(T, stuck), False)
        self.assertIs(is_stuck_run(F, (0, 1, 0)), False)

    def test_things_of_every_kind(self):
        for thing in things():
            for some in (thing, (thing,), (("do", thing),), (("lay", thing),), ((thing, 0),), (("do", 0), thing),
                         ((thing, thing),), ("do", thing)):
                self.same_as_by_hand(F, some)


class PlainTests(unittest.TestCase):
    def same_as_the_fact(self, table):
        """What is told of the table, None where it is not plain."""
        plain = is_plain_by_hand(table)
        self.assertIs(is_plain(table), plain)
        if not plain:
            self.assertIs(type(raised(never_stuck, table)), NotPlain)
            self.assertIs(type(raised(stuck_run, table)), NotPlain)
            return None
        never = is_settled_by_hand(table)
        self.assertIs(never_stuck(table), never)
        run = stuck_run(table)
        self.assertEqual(run, stuck_run(Table(table.cells, table.kinds)))
        if never:
            self.assertIsNone(run)
        else:
            self.assertTrue(is_stuck_by_hand(table, run))
            self.assertIs(is_stuck_run(table, run), True)
        return never

    def no_drawn_run_is_stuck(self, dice, table, many):
        for _ in range(many):
            run = some_run(dice, table, 30, 1 + dice.roll(5))
            self.assertFalse(is_stuck_by_hand(table, run))
            self.assertIs(is_stuck_run(table, run), False)

    def test_all_tables_of_two_cells(self):
        told = [self.same_as_the_fact(table) for table in tables_of_two_cells()]
        self.assertEqual(set(told), {True, False})

    def test_drawn_tables(self):
        dice = Dice(92)
        told = {}
        for _ in range(300):
            answer = self.same_as_the_fact(some_table(dice, 1 + dice.roll(8), 1 + dice.roll(14)))
            told[answer] = told.get(answer, 0) + 1
        self.assertGreater(min(told[True], told[False]), 60)

    def test_knots_of_two_cells(self):
        dice = Dice(93)
        two = [(0, 1), (1, 0)]
        for more in ((), [(0, (2,)), (2, ())], [(0, (1, 2)), (2, (2,)), (1, (2, 3)), (3, (2,))]):
            table = tied(4, two, more)
            self.assertIs(self.same_as_the_fact(table), True)
            self.no_drawn_run_is_stuck(dice, table, 25)
            self.assertIs(self.same_as_the_fact(tied(4, two, [*more, (0, (0, 1))])), False)

    def test_rows_of_three_cells_that_are_shut(self):
        dice = Dice(94)
        for order in permutations(range(3)):
            for more in ((), [(3, (0, 1, 2))], [(0, (0, 4))], [(order[1], (order[2], 3, 4))]):
                table = row(order, 5, more)
                self.assertIs(self.same_as_the_fact(table), True)
                self.no_drawn_run_is_stuck(dice, table, 6)
                self.assertIs(self.same_as_the_fact(filled_up(dice, table, 40)), True)

    def test_rows_of_three_cells_that_are_not_shut(self):
        dice = Dice(95)
        for order in permutations((0, 1, 2, 3)):
            a, b, c, z = order
            for w, r in ((a, None), (a, a), (a, b), (b, None), (b, a), (b, b), (b, c), (c, None), (c, c), (c, b)):
                for of_z in ((), (z,)):
                    table = open_row(order, w, () if r is None else (r,), of_z)
                    self.assertIs(self.same_as_the_fact(table), False)
        for order in ((0, 1, 2, 3), (5, 2, 7, 0), (7, 6, 5, 4)):
            for w, reads in ((order[0], ()), (order[1], (order[2],)), (order[2], (order[1],))):
                table = open_row(order, w, reads, (), [(order[3], (order[3],))])
                wider = Table(8, table.kinds)
                self.assertIs(self.same_as_the_fact(filled_up(dice, wider, 40)), False)

    def test_what_lies_beyond_has_ties_of_its_own(self):
        """The cell beyond is of a knot of two, or reads others that change, and so does the knot's kind."""
        for order in permutations(range(3)):
            a, b, c = order
            for w, reads in ((a, (3,)), (a, (a, 3, 4)), (b, (3, 4)), (b, (3, 4, 5)), (c, (b, 4, 5)), (b, (c, 4))):
                for more in ([(3, (4,)), (4, (3,)), (5, (3,))], [(3, (4, 5)), (4, (4,)), (5, (5, 6)), (6, ())]):
                    kinds = [(a, (b,)), (b, (a,)), (b, (c,)), (c, (b,)), (w, tuple(sorted(reads)))]
                    self.assertIs(self.same_as_the_fact(table_of(7, kinds + more)), False)

    def test_a_cell_beyond_that_never_changes_leaves_a_knot_shut(self):
        kinds = [(0, (1,)), (1, (0,)), (1, (2,)), (2, (1,))]
        self.assertIs(self.same_as_the_fact(table_of(4, kinds + [(0, (3,)), (1, (2, 3))])), True)
        self.assertIs(self.same_as_the_fact(table_of(4, kinds + [(0, (3,)), (3, ())])), False)
        with_still = [(0, (1, 4)), (1, (0, 4)), (1, (2, 4)), (2, (1, 4, 5))]
        self.assertIs(self.same_as_the_fact(table_of(6, with_still)), True)
        self.assertIs(self.same_as_the_fact(table_of(6, with_still + [(2, (3,)), (3, (3,))])), False)

    def test_tables_that_are_not_plain(self):
        kinds = [(0, (1,)), (1, (0,)), (1, (2,)), (2, (1,))]
        for at, (w, reads) in enumerate(kinds):
            beyond = [(w, (*reads, 3)), (3, ())]
            fewer = kinds[:at] + kinds[at + 1:] + beyond
            self.assertIsNone(self.same_as_the_fact(table_of(5, fewer)))
            self.assertIsNone(self.same_as_the_fact(table_of(5, [(w, (*reads, 3, 4)), (4, (3,)), *fewer])))
            self.assertIs(self.same_as_the_fact(table_of(5, fewer + [(w, (*reads, 4))])), False)
            self.assertIsNone(self.same_as_the_fact(table_of(6, fewer + [(w, (*reads, 4)), (4, ())])))
            self.assertIsNone(self.same_as_the_fact(table_of(8, fewer + [(6, (7,)), (7, (6, 7))])))
        all_three = [(0, (1, 3)), (1, (0, 3)), (1, (2, 3)), (2, (1, 3)), (3, ())]
        self.assertIsNone(self.same_as_the_fact(table_of(4, all_three)))

    def test_ties_that_lead_out_of_a_knot_or_into_it_are_no_ties_within(self):
        kinds = [(0, (1,)), (1, (0,)), (1, (2,)), (2, (1,)), (3, ())]
        for more in ([(0, (3, 4)), (4, ())], [(0, (3,)), (4, (0, 3))], [(1, (0, 3)), (4, (0, 1, 2)), (5, (2, 4))]):
            self.assertIs(self.same_as_the_fact(table_of(6, kinds + more)), False)

    def test_only_sound_knots_of_three_cells_make_a_table_not_plain(self):
        self.assertIs(self.same_as_the_fact(tied(4, [], [(0, (1, 3)), (1, (0, 3)), (3, ())])), True)
        self.assertIs(self.same_as_the_fact(table_of(4, [(0, (1, 3)), (1, (2, 3)), (2, (0, 3)), (3, ())])), False)
        self.assertIs(self.same_as_the_fact(table_of(
            4, [(0, (1, 3)), (1, (0, 2)), (1, (0, 3)), (1, (2, 3)), (2, (1, 3)), (3, ())])), False)
        four = [(0, (1, 4)), (1, (0, 4)), (1, (2, 4)), (2, (1, 4)), (2, (3, 4)), (3, (2, 4)), (4, ())]
        self.assertIs(self.same_as_the_fact(table_of(5, four)), False)

    def test_rows_of_four_cells_and_more(self):
        dice = Dice(96)
        for cells in range(4, 9):
            for _ in range(8):
                order = list(range(cells))
                order = [order.pop(dice.roll(len(order))) for _ in range(cells)]
                pairs = list(zip(order, order[1:])) + list(zip(order[1:], order))
                self.assertIs(self.same_as_the_fact(row(order, 8)), False)
                self.assertIs(self.same_as_the_fact(table_of(cells, [(w, (r,)) for r, w in pairs])), False)
                self.assertIs(self.same_as_the_fact(filled_up(dice, row(order, 8), 40)), False)

    def test_knots_that_are_not_sound(self):
        for table in (F, ring(3), ring(8), ring(5, True), row((0, 1, 2, 3), 8, [(1, (0, 2))])):
            self.assertIs(self.same_as_the_fact(table), False)

    def test_never_stuck_against_runs_of_few_steps(self):
        """No run of few steps of a table that is never stuck is stuck, and of F some is."""
        for table in (T, row((0, 1, 2)), Table(2, ((0, (1,)), (1, (0,)), (1, (1,))))):
            steps = [("do", number) for number in range(len(table.kinds))]
            steps += [("lay", cell) for cell in range(table.cells)]
            for run in product(steps, repeat=4):
                self.assertFalse(is_stuck_by_hand(table, run))
        self.assertTrue(is_stuck_by_hand(F, (("do", 0), ("do", 1), ("do", 0))))

    def test_presents_are_derived_all_the_while(self):
        table = row((3, 1, 0, 2))
        run = stuck_run(table)
        for many in range(len(run) + 1):
            journal, plates = behind(table, run[:many])
            rows, last = ends_by_hand(table, journal)
            self.assertEqual(tuple(last), presents_by_hand(table, journal))
            self.assertTrue(all_come_back(rows, last, plates))


if __name__ == "__main__":
    unittest.main()
