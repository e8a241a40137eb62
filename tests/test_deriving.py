"""[2.1], and [0.3], [0.4] for laidplates.deriving."""

import unittest
from itertools import combinations

from helping import (F, T, Dice, derived_by_hand, is_journal_by_hand, is_plates_by_hand, is_safe_by_hand,
                     lost_by_hand, plates_of, presents_by_hand, raised, some_cases, some_journal, some_plates,
                     some_table, sources_by_hand, things)
from laidplates.deriving import can_cut, derived, is_safe, lost, redo
from laidplates.errors import NoJournal, NoPlates, NotSafe
from laidplates.tables import Table, fresh, present


def brings_back(table, journal, plates, deeds):
    """Whether all presents are there when just these deeds are done again."""
    there = set(plates)
    for deed in deeds:
        if there.issuperset(sources_by_hand(table, journal, deed)):
            there.add(deed)
    return there.issuperset(presents_by_hand(table, journal))


def fewest_again(table, journal, plates):
    for many in range(len(journal) + 1):
        for deeds in combinations(range(len(journal)), many):
            if brings_back(table, journal, plates, deeds):
                return deeds
    return None


class DerivingTests(unittest.TestCase):
    def test_derived_and_lost_of_all_plates(self):
        for table, journal, _ in some_cases(11, 60, 3, 6):
            for plates in plates_of(table, journal):
                self.assertEqual(derived(table, journal, plates), derived_by_hand(table, journal, plates))
                self.assertEqual(lost(table, journal, plates), lost_by_hand(table, journal, plates))
                self.assertIs(is_safe(table, journal, plates), is_safe_by_hand(table, journal, plates))

    def test_derived_of_greater_tables(self):
        for table, journal, plates in some_cases(12, 100, 8, 30):
            self.assertEqual(derived(table, journal, plates), derived_by_hand(table, journal, plates))
            self.assertEqual(lost(table, journal, plates), lost_by_hand(table, journal, plates))

    def test_deeds_that_read_nothing_are_derived(self):
        table = Table(1, ((0, ()), (0, (0,))))
        self.assertEqual(derived(table, (1, 0, 1), (-1,)), (-1, 0, 1, 2))
        self.assertEqual(derived(table, (1, 0, 1), (1,)), (1, 2))
        self.assertEqual(redo(table, (1, 0, 1), (-1,)), (1, 2))
        self.assertEqual(lost(table, (1, 1), (0,)), ())

    def test_fresh_plates_are_safe(self):
        for table, journal, _ in some_cases(13, 60, 8, 30):
            self.assertIs(is_safe(table, journal, fresh(table)), True)
            self.assertIs(is_safe(table, journal, present(table, journal)), True)
            self.assertEqual(redo(table, journal, present(table, journal)), ())
            self.assertEqual(can_cut(table, journal, present(table, journal)), len(journal))

    def test_redo_holds_no_deed_that_is_not_needed(self):
        unsafe = 0
        for table, journal, _ in some_cases(14, 40, 3, 6):
            for plates in plates_of(table, journal):
                fewest = fewest_again(table, journal, plates)
                if fewest is None:
                    unsafe += 1
                    self.assertIs(type(raised(redo, table, journal, plates)), NotSafe)
                    self.assertIs(type(raised(can_cut, table, journal, plates)), NotSafe)
                    continue
                self.assertEqual(redo(table, journal, plates), fewest)
                cut = can_cut(table, journal, plates)
                self.assertEqual(cut, max(many for many in range(len(journal) + 1)
                                          if all(deed >= many for deed in fewest)))
        self.assertGreater(unsafe, 0)

    def test_cut_of_none_and_of_all(self):
        self.assertEqual(can_cut(T, (0, 1), (-1, -2)), 0)
        self.assertEqual(can_cut(T, (0, 1), (0, 1)), 2)
        self.assertEqual(can_cut(T, (), (-1, -2)), 0)
        self.assertEqual(can_cut(T, (0,) * 400, (399, -2)), 400)
        self.assertEqual(can_cut(T, (0,) * 400, (-1, -2)), 399)
        self.assertEqual(can_cut(F, (0,) * 400, (-1, -2)), 0)

    def test_a_journal_of_400_deeds(self):
        dice = Dice(15)
        for cells in (1, 3, 8):
            table = some_table(dice, cells, 12)
            journal = some_journal(dice, table, 400)
            for plates in (some_plates(dice, table, journal), fresh(table)):
                known = self.derived_forward(table, journal, plates)
                self.assertEqual(derived(table, journal, plates), known)
                gone = tuple(cell for cell, last in enumerate(presents_by_hand(table, journal))
                             if last not in known)
                self.assertEqual(lost(table, journal, plates), gone)
                if gone == ():
                    self.assertTrue(brings_back(table, journal, plates, redo(table, journal, plates)))

    def derived_forward(self, table, journal, plates):
        known = set(plates)
        for deed in range(len(journal)):
            if known.issuperset(sources_by_hand(table, journal, deed)):
                known.add(deed)
        return tuple(sorted(known))

    def test_a_long_chain_is_done_again_whole(self):
        table = Table(1, ((0, (0,)),))
        journal = (0,) * 400
        self.assertEqual(derived(table, journal, (-1,)), tuple(range(-1, 400)))
        self.assertEqual(redo(table, journal, (-1,)), tuple(range(400)))
        self.assertEqual(redo(table, journal, (200,)), tuple(range(201, 400)))
        self.assertEqual(can_cut(table, journal, (200,)), 201)


class RefusalTests(unittest.TestCase):
    def test_errors_in_their_order(self):
        for action in (derived, lost, redo, can_cut):
            for thing in things():
                if not is_journal_by_hand(T, thing):
                    self.assertIs(type(raised(action, T, thing, (-1, -2))), NoJournal)
                    self.assertIs(type(raised(action, T, thing, thing)), NoJournal)
                if not is_plates_by_hand(T, (0, 1), thing):
                    self.assertIs(type(raised(action, T, (0, 1), thing)), NoPlates)
                self.assertIs(type(raised(action, T, (0, 1), (thing, -1))), NoPlates)
            for wrong in ((0, True), (-2, -1), (0, 0), (0, 2), (0,), [0, 1], (0, 1, -3)):
                self.assertIs(type(raised(action, T, (0, 1), wrong)), NoPlates)

    def test_not_safe_comes_last(self):
        for action in (redo, can_cut):
            self.assertIs(type(raised(action, T, (0, 1), (-1, 1))), NotSafe)
            self.assertIs(type(raised(action, T, (0, 1), [-1, 1])), NoPlates)
            self.assertIs(type(raised(action, T, [0, 1], (-1, 1))), NoJournal)

    def test_is_safe_judges_any_object(self):
        for thing in things():
            right = is_plates_by_hand(T, (0, 1), thing) and is_safe_by_hand(T, (0, 1), thing)
            self.assertIs(is_safe(T, (0, 1), thing), right)
            if not is_journal_by_hand(T, thing):
                self.assertIs(type(raised(is_safe, T, thing, thing)), NoJournal)
        for wrong in ([0, 1], (False, True), (0, True), (-1, 1), (1, 0)):
            self.assertIs(is_safe(T, (0, 1), wrong), False)

    def test_equal_calls_give_equal_answers(self):
        for table, journal, plates in some_cases(16, 20, 4, 10):
            self.assertEqual(derived(table, journal, plates), derived(table, journal, plates))
            self.assertEqual(lost(table, journal, plates), lost(table, journal, plates))


if __name__ == "__main__":
    unittest.main()
