"""[0.3], [0.4] over the whole program: any things in all places where an error is named or a thing is judged."""

import copy
import unittest

from helping import F, T, Dice, nested, raised, some_journal, some_table, things
from laidplates.bars import is_bar
from laidplates.benches import Bench, replayed
from laidplates.classes import alike, classes, count_far, first_of_classes, telling
from laidplates.deriving import is_safe, lost
from laidplates.desks import Desk, tale
from laidplates.disks import Disk
from laidplates.errors import PlateError
from laidplates.hands import led
from laidplates.layings import harmed, is_laying_out
from laidplates.mendings import cheapest_mending, is_mending, mendings, most_ordered, most_ties, tied_table
from laidplates.places import is_enough, lay_out_kept, sticking_kept
from laidplates.presses import begun
from laidplates.reading import read_journal, read_run, read_table
from laidplates.runs import behind, is_run, is_stuck_run
from laidplates.standings import count_sticking
from laidplates.sticking import is_sticking
from laidplates.sweeps import is_sweep_order, is_whole, spoiling, swept
from laidplates.tables import Table, is_journal, is_plates, present, sources
from laidplates.texts import journal_text, run_text, table_text
from laidplates.webs import row_of
from laidplates.worlds import bits_of, is_parting

FRESH = (-1, -2)


def press_of(table):
    return begun(Disk(), table, (0,) * table.cells)


JUDGES = [
    lambda thing: is_journal(F, thing), lambda thing: is_plates(F, (0, 1), thing),
    lambda thing: is_safe(F, (0, 1), thing), lambda thing: is_parting(F, (0, 1), FRESH, thing),
    lambda thing: is_laying_out(F, (0, 1), FRESH, thing), lambda thing: is_bar(F, (0, 1, 0), FRESH, thing),
    lambda thing: is_sticking(F, thing), lambda thing: is_run(F, thing), lambda thing: is_stuck_run(F, thing),
    lambda thing: is_enough(F, thing), lambda thing: is_whole(F, (0, 1), thing),
    lambda thing: is_sweep_order(F, thing), lambda thing: is_mending(F, thing),
]
PLACES = JUDGES + [
    lambda thing: Table(thing, thing), lambda thing: Table(2, thing), lambda thing: present(F, thing),
    lambda thing: sources(F, (0, 1), thing), lambda thing: lost(F, thing, thing), lambda thing: lost(F, (0,), thing),
    lambda thing: bits_of(F, (0,), thing, thing), lambda thing: harmed(F, (0,), FRESH, thing),
    lambda thing: row_of(F, thing), lambda thing: count_sticking(F, thing), lambda thing: behind(F, thing),
    lambda thing: lay_out_kept(F, (0,), thing), lambda thing: sticking_kept(F, thing),
    lambda thing: swept(F, thing, thing), lambda thing: swept(F, (0, 1), thing), lambda thing: spoiling(F, thing),
    lambda thing: led(F, (0, 1), lambda view: thing), lambda thing: Disk().power(thing),
    lambda thing: begun(Disk(), F, thing), lambda thing: press_of(F).do(thing, sum),
    lambda thing: press_of(F).value(thing), lambda thing: press_of(F).plate(thing),
    lambda thing: press_of(F).harmed(thing), lambda thing: press_of(F).lay(thing),
    lambda thing: press_of(F).sweep(thing), lambda thing: journal_text(F, thing), lambda thing: run_text(F, thing),
    lambda thing: read_table(thing), lambda thing: read_journal(F, thing), lambda thing: read_run(F, thing),
    lambda thing: Bench(F).add_kind(thing), lambda thing: Bench(F).drop_kind(thing),
    lambda thing: Bench(F).drop_cell(thing), lambda thing: Bench(F).joined(thing),
    lambda thing: Bench(F).parted(thing), lambda thing: Bench(F).mark(thing), lambda thing: Bench(F).go_to(thing),
    lambda thing: replayed(F, thing), lambda thing: replayed(F, [("add_kind", thing)]),
    lambda thing: cheapest_mending(F, thing), lambda thing: most_ties(thing), lambda thing: most_ordered(thing),
    lambda thing: tied_table(thing), lambda thing: alike(F, thing, thing), lambda thing: telling(F, (), thing),
    lambda thing: count_far(F, thing, thing), lambda thing: count_far(F, 5, thing), lambda thing: Desk().tell(thing),
    lambda thing: tale(thing), lambda thing: tale([thing]),
]


def some_deep_things():
    """What looks right outside and is of any kind inside."""
    return [wrapped for thing in things() if type(thing) is not str or len(thing) < 100
            for wrapped in ((thing,), (thing, 0), (0, thing), (0, (thing,)), ((0, (thing,)),), (("do", thing),),
                            ((thing, 0),), (("sweep",), thing), [thing], {(): (thing,)}, {(): (("harm", thing),) * 2},
                            ((0, 1), thing), (((0, 1), thing), (0, 0), (1, 0)), ("add_kind", thing))]


class WholeTests(unittest.TestCase):
    def test_no_other_errors(self):
        for thing in things():
            for place in PLACES:
                try:
                    place(thing)
                except PlateError:
                    pass

    def test_no_other_errors_of_things_within(self):
        for thing in some_deep_things():
            for place in PLACES:
                try:
                    place(thing)
                except PlateError:
                    pass

    def test_judges_return_flags(self):
        for thing in [*things(), *some_deep_things(), (), (0, 1), (0,), (("do", 0),), FRESH, (("sweep",), ("sweep",))]:
            for judge in JUDGES:
                self.assertIn(judge(thing), (True, False))
                self.assertIs(type(judge(thing)), bool)

    def test_arguments_are_not_changed(self):
        mutable = [[0, [1]], {"a": [1]}, ([0], {1: [2]}), [["add_kind", [0, []]]], {(): [["harm", 0]]}, ["word b", "x"],
                   [("add_cell",), ("add_kind", [0])], nested(lambda inner: [inner], [], 39)]
        for thing in mutable:
            kept = copy.deepcopy(thing)
            for place in PLACES:
                raised(place, thing)
                self.assertEqual(thing, kept)
        self.assertEqual(F, Table(2, ((0, (0, 1)), (1, (0,)))))

    def test_equal_calls_give_equal_answers(self):
        dice = Dice(271)
        for _ in range(40):
            table = some_table(dice, 1 + dice.roll(3), 6)
            other = Table(table.cells, tuple((cell, tuple(list(reads))) for cell, reads in table.kinds))
            journal = some_journal(dice, table, dice.roll(8))
            for action in (table_text, mendings, classes, first_of_classes, lambda one: count_far(one, 10 ** 20, 101),
                           lambda one: telling(one, journal, ()), lambda one: journal_text(one, journal),
                           lambda one: cheapest_mending(one, (1,) * len(one.kinds)), self.told_by_bench,
                           lambda one: self.told_by_press(one, journal)):
                self.assertEqual(action(table), action(other))
        for cells in range(1, 9):
            self.assertEqual(tied_table(cells), tied_table(cells))

    def told_by_bench(self, table):
        bench = Bench(table)
        raised(bench.add_kind, (0, (0,)))
        bench.add_cell()
        return bench.knots(), bench.bad_knots(), bench.rows(), bench.verdict(), bench.journal(), bench.marks()

    def told_by_press(self, table, journal):
        disk = Disk()
        press = begun(disk, table, (5,) * table.cells)
        for kind in journal:
            press.do(kind, sum)
        error = raised(press.lay_all)
        return type(error), press.plates(), press.cut(), press.kept(), disk.content()[("kept",)], disk.written()

    def test_lists_and_dicts_that_are_returned_are_new(self):
        bench = Bench(T)
        for action in (bench.knots, bench.bad_knots, bench.rows, bench.journal, lambda: mendings(F),
                       lambda: first_of_classes(F), lambda: tale([]), Disk().content):
            told = action()
            kept = copy.deepcopy(told)
            told.clear()
            self.assertEqual(action(), kept)
            self.assertIsNot(action(), action())

    def test_integers_of_60_digits(self):
        for great in (10 ** 60 - 1, 1 - 10 ** 60):
            for thing in (great, (great,), (great, great), ((great, ()),), (0, (great,)), (("do", great),), [great]):
                for place in PLACES:
                    told = raised(place, thing)
                    self.assertTrue(told is None or isinstance(told, PlateError))

    def test_what_was_returned_may_be_passed_on(self):
        dice = Dice(272)
        for _ in range(40):
            table = some_table(dice, 1 + dice.roll(3), 6)
            for first in first_of_classes(table):
                self.assertIs(alike(table, first, first), True)
                self.assertEqual(read_journal(table, journal_text(table, first)), first)
            for lot in mendings(table):
                self.assertIs(is_mending(table, lot), True)
            bench = Bench(table)
            raised(bench.add_kind, (0, ()))
            bench.add_cell()
            self.assertEqual(replayed(table, bench.journal()).now(), bench.now())
            self.assertEqual(read_table(table_text(bench.now())), bench.now())
        self.assertEqual(most_ties(10 ** 30) - most_ordered(10 ** 30), 10 ** 30 // 2)


if __name__ == "__main__":
    unittest.main()
