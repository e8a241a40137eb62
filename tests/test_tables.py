"""[1.1], [1.2], [1.3], and [0.3], [0.4] for laidplates.tables."""

import copy
import unittest

from helping import (F, T, Dice, is_journal_by_hand, is_plates_by_hand, plates_of, presents_by_hand, raised,
                     some_cases, some_journal, some_table, sources_by_hand, things)
from laidplates.errors import BadTable, NoDeed, NoJournal
from laidplates.tables import Table, fresh, is_journal, is_plates, present, sources

FORTY = tuple((cell, reads) for cell in range(2) for reads in (
    (), (0,), (0, 1), (0, 1, 2), (0, 1, 3), (0, 2), (0, 2, 3), (0, 3), (1,), (1, 2),
    (1, 2, 3), (1, 3), (2,), (2, 3), (3,), (4,), (4, 5), (5,), (6,), (7,)))


class TableTests(unittest.TestCase):
    def bad(self, part, at, cells, kinds):
        error = raised(Table, cells, kinds)
        self.assertIs(type(error), BadTable, (cells, kinds))
        self.assertEqual((error.part, error.at), (part, at), (cells, kinds))

    def test_attributes(self):
        table = Table(2, ((0, (1,)), (1, (0,))))
        self.assertEqual((table.cells, table.kinds), (2, ((0, (1,)), (1, (0,)))))

    def test_cells_from_1_to_8(self):
        for cells in range(1, 9):
            self.assertEqual(Table(cells, ((cells - 1, ()),)).cells, cells)
        for cells in (0, 9, -1, 10 ** 59, True, False, None, "2", b"2", (2,), [2]):
            self.bad("cells", -1, cells, ((0, ()),))

    def test_cells_of_every_kind(self):
        for thing in things():
            if type(thing) is not int or not 1 <= thing <= 8:
                self.bad("cells", -1, thing, ((0, ()),))
                self.bad("cells", -1, thing, [])

    def test_kinds_that_are_no_tuple_of_1_to_40(self):
        for kinds in ((), [(0, ())], {(0, ()): 0}, None, "a", 1, T, FORTY + ((2, ()),), (None,) * 41):
            self.bad("kinds", -1, 8, kinds)
        self.assertEqual(len(FORTY), 40)
        self.assertEqual(Table(8, FORTY).kinds, FORTY)

    def test_kinds_of_every_kind(self):
        for thing in things():
            if type(thing) is tuple and 1 <= len(thing) <= 40:
                error = raised(Table, 8, thing)
                self.assertEqual((type(error), error.part), (BadTable, "kinds"))
                self.assertIn(error.at, range(len(thing)))
            else:
                self.bad("kinds", -1, 8, thing)

    def test_the_first_thing_that_is_no_kind(self):
        wrong = [[0, ()], (0, []), (0, [0]), (3, ()), (0, (3,)), (-1, ()), (0, (-1,)), (True, ()), (0, (False,)),
                 (0, (True,)), (0, (0, True)), (0, (0, 1, 2, 3)), (0, (-1, 0)), (0, (1, 0)), (0, (0, 0)),
                 (0, (0, 1, 1)), (0,), (),
                 (0, (), ()), (0, 0), (0, None), (None, ()), ("0", ()), (0, "0"), (0, ("0",)), (0, b"0"), ((0,), ()),
                 (0, ((),)), (0, {}), (0, T), (T, ()), (0, (T,)), "0(", 0, None]
        for thing in wrong:
            cells = 4 if thing == (0, (0, 1, 2, 3)) else 3
            self.bad("kinds", 0, cells, (thing,))
            self.bad("kinds", 2, cells, ((0, ()), (0, (0,)), thing, (1, ())))
            self.bad("kinds", 1, cells, ((0, ()), thing, thing))

    def test_each_thing_in_each_place_of_a_kind(self):
        for thing in things():
            if not (type(thing) is tuple and thing in ((), (0,), (0, 1))) or thing and type(thing[0]) is bool:
                self.bad("kinds", 1, 2, ((0, ()), (0, thing)))
            if type(thing) is not int or thing not in (0, 1):
                self.bad("kinds", 1, 2, ((0, ()), (thing, ())))
                self.bad("kinds", 1, 2, ((0, ()), (0, (thing,))))
            self.bad("kinds", 1, 2, ((0, ()), thing, (1, ())))

    def test_the_first_that_is_not_greater_than_the_one_ahead(self):
        self.bad("kinds", 1, 2, ((0, ()), (0, ())))
        self.bad("kinds", 1, 2, ((1, ()), (0, ())))
        self.bad("kinds", 2, 2, ((0, ()), (0, (1,)), (0, (0, 1)), (0, (0,))))
        self.bad("kinds", 1, 2, ((0, (1,)), (0, (1,)), 5))
        self.bad("kinds", 2, 2, ((0, ()), (1, (1,)), (1, (0, 1)), 5))

    def test_reads_up_to_three_cells(self):
        kinds = ((0, ()), (0, (0,)), (0, (0, 1, 2)), (0, (1, 2, 3)), (0, (1, 3)), (3, (0, 2, 3)))
        self.assertEqual(Table(4, kinds).kinds, kinds)
        self.bad("kinds", 4, 3, ((0, ()), (0, (0,)), (0, (0, 1, 2)), (0, (1,)), (0, (1, 3))))

    def test_equal_just_if_both_are(self):
        self.assertTrue(Table(2, T.kinds) == T)
        self.assertFalse(Table(2, T.kinds) != T)
        self.assertFalse(Table(3, T.kinds) == T)
        self.assertTrue(Table(3, T.kinds) != T)
        self.assertFalse(T == F)
        self.assertFalse(Table(2, T.kinds[:1]) == T)

    def test_equal_to_nothing_of_another_kind(self):
        one = Table(1, ((0, ()),))
        for thing in [*things(), (1, ((0, ()),)), {"cells": 1}, T]:
            if type(thing) is not Table or thing is T:
                self.assertIs(one == thing, False)
                self.assertIs(thing == one, False)
                self.assertIs(one != thing, True)

    def test_a_refused_table_changes_nothing(self):
        kinds = [(0, ()), [0, ()]]
        raised(Table, 1, kinds)
        raised(Table, 1, tuple(kinds))
        self.assertEqual(kinds, [(0, ()), [0, ()]])


class JournalTests(unittest.TestCase):
    def test_lengths(self):
        for many in (0, 1, 399, 400):
            self.assertIs(is_journal(T, (1,) * many), True)
        for many in (401, 402, 20000):
            self.assertIs(is_journal(T, (1,) * many), False)

    def test_numbers(self):
        self.assertIs(is_journal(T, (0, 1, 1, 0)), True)
        for wrong in (2, -1, -2, 10 ** 59, True, False, None, "0", b"0", (0,), [0], T):
            self.assertIs(is_journal(T, (wrong,)), False, wrong)
            self.assertIs(is_journal(T, (0, 1, wrong)), False, wrong)
        self.assertIs(is_journal(Table(1, ((0, ()),)), (1,)), False)
        self.assertIs(is_journal(Table(8, FORTY), (39, 0)), True)
        self.assertIs(is_journal(Table(8, FORTY), (40,)), False)

    def test_every_kind(self):
        for thing in things():
            self.assertIs(is_journal(T, thing), is_journal_by_hand(T, thing))

    def test_no_journal_ahead_of_the_rest(self):
        for thing in things() + [(0,) * 401, (2,), (-1,), (True,), [0], [], (0, [1])]:
            if not is_journal_by_hand(T, thing):
                self.assertIs(type(raised(present, T, thing)), NoJournal)
                self.assertIs(type(raised(sources, T, thing, 0)), NoJournal)
                self.assertIs(type(raised(sources, T, thing, None)), NoJournal)
                self.assertIs(type(raised(is_plates, T, thing, (-1, -2))), NoJournal)
                self.assertIs(type(raised(is_plates, T, thing, thing)), NoJournal)

    def test_no_deed(self):
        for thing in things() + [-1, 3, 10 ** 59, True, False, "0", (0,), [0]]:
            if type(thing) is not int or thing not in (0, 1, 2):
                self.assertIs(type(raised(sources, T, (0, 1, 0), thing)), NoDeed)
        self.assertIs(type(raised(sources, T, (), 0)), NoDeed)
        self.assertIs(type(raised(sources, T, (0,) * 400, 400)), NoDeed)
        self.assertEqual(sources(T, (0,) * 400, 399), (-2,))

    def test_present_sources_and_fresh(self):
        self.assertEqual(fresh(Table(8, FORTY)), (-1, -2, -3, -4, -5, -6, -7, -8))
        self.assertEqual(fresh(Table(1, ((0, ()),))), (-1,))
        for table, journal, _ in some_cases(1, 150, 8, 30):
            self.assertEqual(present(table, journal), presents_by_hand(table, journal))
            self.assertEqual(present(table, ()), fresh(table))
            for deed in range(len(journal)):
                self.assertEqual(sources(table, journal, deed), sources_by_hand(table, journal, deed))

    def test_deeds_that_read_the_cell_that_they_write(self):
        table = Table(2, ((0, (0,)), (0, (0, 1)), (1, ())))
        journal = (0, 1, 2, 1)
        rows = [sources(table, journal, deed) for deed in range(4)]
        self.assertEqual(rows, [(-1,), (0, -2), (), (1, 2)])
        self.assertEqual(present(table, journal), (3, 2))

    def test_journals_of_400_deeds(self):
        dice = Dice(2)
        table = some_table(dice, 5, 20)
        journal = some_journal(dice, table, 400)
        self.assertEqual(present(table, journal), presents_by_hand(table, journal))
        self.assertEqual(sources(table, journal, 399), sources_by_hand(table, journal, 399))


class PlatesTests(unittest.TestCase):
    def test_all_plates_and_their_neighbours(self):
        for table, journal, _ in some_cases(3, 40, 3, 5):
            right = set(plates_of(table, journal))
            for plates in right:
                self.assertIs(is_plates(table, journal, plates), True)
                for cell in range(table.cells):
                    for version in range(-10, 8):
                        other = plates[:cell] + (version,) + plates[cell + 1:]
                        self.assertIs(is_plates(table, journal, other), other in right)
                self.assertIs(is_plates(table, journal, plates[:-1]), False)
                self.assertIs(is_plates(table, journal, plates + plates[-1:]), False)
                self.assertIs(is_plates(table, journal, list(plates)), False)

    def test_versions_of_another_cell_and_of_no_deed(self):
        for wrong in ((-2, -1), (1, -2), (-1, 0), (2, 1), (0, 2), (-3, -2), (-1, -3), (0,), (), (0, 1, -3)):
            self.assertIs(is_plates(T, (0, 1), wrong), False, wrong)
        self.assertIs(is_plates(T, (0, 1), (0, -2)), True)
        self.assertIs(is_plates(T, (0, 1), (-1, 1)), True)
        self.assertIs(is_plates(T, (), (-1, -2)), True)
        self.assertIs(is_plates(T, (), (0, -2)), False)

    def test_flags_are_no_versions(self):
        for wrong in ((False, True), (0, True), (False, 1), (False, -2)):
            self.assertIs(is_plates(T, (0, 1), wrong), False, wrong)

    def test_every_kind(self):
        for thing in things():
            self.assertIs(is_plates(T, (0, 1), thing), is_plates_by_hand(T, (0, 1), thing))
            for plates in ((thing, 1), (0, thing)):
                self.assertIs(is_plates(T, (0, 1), plates), is_plates_by_hand(T, (0, 1), plates))

    def test_arguments_are_not_changed_and_answers_are_equal(self):
        thing = [[0], {"a": [1]}]
        kept = copy.deepcopy(thing)
        for _ in range(2):
            self.assertIs(is_journal(T, thing), False)
            self.assertIs(is_plates(T, (), thing), False)
            self.assertEqual(present(T, (0, 1)), (0, 1))
        self.assertEqual(thing, kept)
        self.assertEqual(T, Table(2, ((0, (1,)), (1, (0,)))))


if __name__ == "__main__":
    unittest.main()
