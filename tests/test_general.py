"""[0.2], [0.4], [0.5]: the general rules, over all functions at once."""

import copy
import unittest

from helping import F, T, WITH_DEAD_ENDS, raised, some_cases
from laidplates.bars import bar, is_bar
from laidplates.deriving import can_cut, derived, is_safe, lost, redo
from laidplates.errors import (BadTable, NoCell, NoDeed, NoJournal, NoKnot, NoLot, NoNumber, NoOrder, NoPlates, NoRun,
                               NoWeaving)
from laidplates.hands import judged_hand, led
from laidplates.layings import at_once, count_layings, harmed, is_laying_out, lay_out
from laidplates.places import fewest_places, is_enough, lay_out_kept, sticking_kept
from laidplates.runs import behind, is_plain, is_run, is_stuck_run, stuck_run
from laidplates.spares import lay_out_spared
from laidplates.standings import count_sticking, shortest_sticking
from laidplates.sticking import is_sticking, sticking
from laidplates.sweeps import is_sweep_order, is_whole, spoiling, sweep_order, swept
from laidplates.tables import Table, fresh, is_journal, is_plates, present, sources
from laidplates.webs import knots, row_of, sound
from laidplates.worlds import is_parting, parting

OF_SAFE_PLATES = (redo, can_cut, lay_out, count_layings, at_once, bar, lay_out_spared)
OF_PLATES = (derived, lost, parting)
CASES = [*WITH_DEAD_ENDS, *some_cases(61, 40, 4, 10), (F, (0, 1, 0), (-1, -2)), (T, (0, 1), (-1, -2))]


def is_all_strict(thing):
    """Whether there are no flags in what should hold none."""
    if isinstance(thing, dict):
        return all(is_all_strict(key) and is_all_strict(value) for key, value in thing.items())
    if isinstance(thing, (tuple, list)):
        return all(is_all_strict(inner) for inner in thing)
    return type(thing) in (int, str)


def answers(table, journal, plates):
    told = [action(table, journal, plates) for action in OF_PLATES]
    told += [present(table, journal), fresh(table), knots(table), sound(table)]
    told += [row_of(table, knot) for knot in knots(table)]
    told += [sources(table, journal, deed) for deed in range(len(journal))]
    told += [harmed(table, journal, plates, cell) for cell in range(table.cells)]
    if is_safe(table, journal, plates):
        told += [action(table, journal, plates) for action in OF_SAFE_PLATES]
    deeds = tuple(("do", kind) for kind in journal)
    order = tuple(reversed(range(table.cells)))
    told += [lay_out_kept(table, journal, (0,)), behind(table, deeds), led(table, journal, laying_at_once)]
    told += [swept(table, order, deeds + (("sweep",),) * table.cells), spoiling(table, order)]
    return told + answers_of_table(table)


def laying_at_once(view):
    return view.index(()) if () in view else None


def waiting(view):
    return None


def answers_of_table(table):
    told = [sticking(table), sticking_kept(table, ()), sticking_kept(table, (0,)), fewest_places(table)]
    told += [sweep_order(table)]
    told += [stuck_run(table)] if is_plain(table) else []
    if table.cells < 4:
        told += [shortest_sticking(table), count_sticking(table, 5), judged_hand(table, waiting)]
    return told


class GeneralTests(unittest.TestCase):
    def test_equal_calls_give_equal_answers(self):
        for table, journal, plates in CASES:
            other = Table(table.cells, tuple((cell, tuple(list(reads))) for cell, reads in table.kinds))
            self.assertEqual(answers(table, journal, plates),
                             answers(other, tuple(list(journal)), tuple(list(plates))))

    def test_answers_hold_no_flags(self):
        for case in CASES:
            for told in answers(*case):
                self.assertTrue(told is None or is_all_strict(told))

    def test_flags_are_no_integers_and_lists_no_tuples(self):
        self.assertIs(type(raised(Table, True, ((0, ()),))), BadTable)
        self.assertIs(type(raised(present, T, (False, True))), NoJournal)
        self.assertIs(type(raised(present, T, [0, 1])), NoJournal)
        self.assertIs(type(raised(sources, T, (0, 1), True)), NoDeed)
        self.assertIs(type(raised(lost, T, (0, 1), (False, True))), NoPlates)
        self.assertIs(type(raised(lost, T, (0, 1), [0, 1])), NoPlates)
        self.assertIs(type(raised(harmed, T, (0, 1), (0, 1), False)), NoCell)
        self.assertIs(type(raised(row_of, T, (False, True))), NoKnot)
        self.assertIs(type(raised(row_of, T, [0, 1])), NoKnot)
        self.assertIs(type(raised(count_sticking, T, True)), NoNumber)
        self.assertIs(type(raised(behind, T, (("do", True),))), NoRun)
        self.assertIs(type(raised(behind, T, [("do", 1)])), NoRun)
        self.assertIs(type(raised(lay_out_kept, T, (), (False,))), NoLot)
        self.assertIs(type(raised(sticking_kept, T, [0])), NoLot)
        self.assertIs(type(raised(spoiling, T, (False, True))), NoOrder)
        self.assertIs(type(raised(spoiling, T, [0, 1])), NoOrder)
        self.assertIs(type(raised(swept, T, (0, 1), (("do", True), ("sweep",), ("sweep",)))), NoWeaving)
        self.assertIs(type(raised(swept, T, (0, 1), [("sweep",), ("sweep",)])), NoWeaving)

    def test_arguments_are_not_changed(self):
        told = bar(F, (0, 1, 0), (-1, -2))
        things = [told, {(): [("harm", 1), ["harm", 0]]}, [[0], {"a": [1]}], ([0], [1]), {(0,): [{}]},
                  [["do", 0], ["lay", 0]], (["do", 0], ["sweep"])]
        for thing in things:
            kept = copy.deepcopy(thing)
            is_journal(T, thing)
            is_plates(T, (0, 1), thing)
            is_safe(T, (0, 1), thing)
            is_parting(T, (0, 1), (-1, -2), thing)
            is_laying_out(T, (0, 1), (-1, -2), thing)
            is_bar(F, (0, 1, 0), (-1, -2), thing)
            raised(row_of, T, thing)
            for action in (is_sticking, count_sticking, is_run, is_stuck_run, behind, is_enough, sticking_kept,
                           is_sweep_order, spoiling):
                raised(action, F, thing)
            for action in (is_whole, swept):
                raised(action, F, (0, 1), thing)
                raised(action, F, thing, thing)
            raised(lay_out_kept, F, (0, 1), thing)
            raised(lay_out_spared, F, (0, 1), thing)
            raised(led, F, (0, 1), lambda view: thing)
            raised(led, F, thing, waiting)
            self.assertEqual(thing, kept)
        self.assertEqual((T.cells, T.kinds), (2, ((0, (1,)), (1, (0,)))))

    def test_returned_lists_and_dicts_are_new(self):
        for action in (knots, sound):
            self.assertIsNot(action(T), action(T))
        first = bar(F, (0, 1, 0), (-1, -2))
        first[()] = None
        self.assertEqual(bar(F, (0, 1, 0), (-1, -2)), {(): (("harm", 1), ("harm", 0))})

    def test_integers_of_60_digits(self):
        for great in (10 ** 60 - 1, 1 - 10 ** 60):
            self.assertIs(type(raised(Table, great, ((0, ()),))), BadTable)
            self.assertIs(type(raised(Table, 2, ((0, (great,)),))), BadTable)
            self.assertIs(type(raised(present, T, (great,))), NoJournal)
            self.assertIs(type(raised(sources, T, (0,), great)), NoDeed)
            self.assertIs(type(raised(lost, T, (0, 1), (0, great))), NoPlates)
            self.assertIs(type(raised(harmed, T, (0, 1), (0, 1), great)), NoCell)
            self.assertIs(type(raised(row_of, T, (0, great))), NoKnot)
            self.assertIs(is_laying_out(T, (0, 1), (-1, -2), (0, great)), False)
            self.assertIs(type(raised(count_sticking, T, great)), NoNumber)
            self.assertIs(type(raised(behind, T, (("do", great),))), NoRun)
            self.assertIs(type(raised(lay_out_kept, T, (0,), (great,))), NoLot)
            self.assertIs(type(raised(spoiling, T, (0, great))), NoOrder)
            self.assertIs(type(raised(swept, T, (0, 1), (("sweep",), ("sweep",), ("do", great)))), NoWeaving)

    def test_what_was_returned_may_be_passed_on(self):
        for table, journal, plates in CASES:
            self.assertIs(is_safe(table, journal, present(table, journal)), True)
            self.assertIs(is_safe(table, journal, fresh(table)), True)
            world = parting(table, journal, plates)
            self.assertIs(is_parting(table, journal, plates, world), world is not None)
            for knot in [*knots(table), *sound(table)]:
                self.assertIn(type(row_of(table, knot)), (tuple, type(None)))
            for start in (fresh(table), present(table, journal)):
                order, told = lay_out(table, journal, start), bar(table, journal, start)
                self.assertIs(is_laying_out(table, journal, start, order), order is not None)
                self.assertIs(is_bar(table, journal, start, told), told is not None)
            self.assertIs(is_sticking(table, sticking(table)), sticking(table) is not None)
            if is_plain(table):
                self.assertIs(is_stuck_run(table, stuck_run(table)), stuck_run(table) is not None)
            self.assertIs(is_run(table, led(table, journal, laying_at_once)), True)
            self.assertIs(is_sweep_order(table, sweep_order(table)), sweep_order(table) is not None)


if __name__ == "__main__":
    unittest.main()
