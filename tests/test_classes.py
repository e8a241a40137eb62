"""[14.1] with THE FACT OF CLASSES, [14.2], and [0.3], [0.4] for laidplates.classes."""

import unittest

from helping import (F, T, Dice, all_journals, is_journal_by_hand, is_number, raised, ring, row, some_journal,
                     some_table, sticks_by_hand, table_of, tables_of_two_cells, things)
from laidplates.classes import alike, classes, count_far, first_of_classes, telling
from laidplates.errors import NoJournal, NoNumber, NoPrime, TooMany
from laidplates.recurrences import far_first
from laidplates.standings import count_sticking
from laidplates.sticking import never_sticks
from laidplates.tables import Table

FOUR = Table(4, ((0, (1,)), (1, (0,))))
ALL_OF_THREE = table_of(3, [(cell, {at for at in range(3) if bits >> at & 1}) for cell in range(3) for bits in range(8)])


class Sticking:
    """Whether journals stick, each looked at once."""

    def __init__(self, table):
        self.table, self.known = table, {}

    def sticks(self, journal):
        if journal not in self.known:
            self.known[journal] = sticks_by_hand(self.table, journal)
        return self.known[journal]

    def rows(self, most):
        return [further for many in range(most + 1) for further in all_journals(self.table, many)]

    def first_telling(self, one, other, most):
        """The first row of at most so many deeds that tells, by going along all of them."""
        for further in self.rows(most):
            if self.sticks(one + further) != self.sticks(other + further):
                return further
        return None

    def sign(self, journal, most):
        return tuple(self.sticks(journal + further) for further in self.rows(most))


def small_tables(seed, many, cells=2):
    dice = Dice(seed)
    found = [T, F, table_of(2, [(0, (0, 1)), (1, (0, 1)), (1, ())])] if cells == 2 else [ring(3), row((0, 1, 2))]
    while len(found) < many:
        table = some_table(dice, cells, 4 if cells == 2 else 3)
        if table not in found and (len(found) % 3 == 0 or not never_sticks(table)):
            found.append(table)
    return found


class AlikeTests(unittest.TestCase):
    def same_as_by_hand(self, table, own, one, other, most):
        told = telling(table, one, other)
        self.assertIs(alike(table, one, other), told is None)
        if told is None:
            self.assertIsNone(own.first_telling(one, other, most), (table.kinds, one, other))
        else:
            self.assertEqual(told, own.first_telling(one, other, len(told)))
            self.assertIs(type(told), tuple)
            self.assertNotEqual(own.sticks(one + told), own.sticks(other + told))
        self.assertEqual(telling(table, other, one), told)
        return told

    def test_tables_of_two_cells(self):
        lengths = set()
        for table in small_tables(241, 25):
            own = Sticking(table)
            journals = own.rows(3)
            dice = Dice(242)
            for _ in range(60):
                one, other = journals[dice.roll(len(journals))], journals[dice.roll(len(journals))]
                told = self.same_as_by_hand(table, own, one, other, 4)
                lengths.add(told if told is None else len(told))
            self.assertIsNone(self.same_as_by_hand(table, own, journals[-1], journals[-1], 1))
        self.assertTrue({None, 0, 1, 2} <= lengths)

    def test_tables_of_three_cells(self):
        dice = Dice(243)
        lengths = set()
        for table in small_tables(244, 12, 3):
            own = Sticking(table)
            for _ in range(25):
                one, other = (some_journal(dice, table, dice.roll(6)) for _ in range(2))
                told = self.same_as_by_hand(table, own, one, other, 3)
                lengths.add(told if told is None else len(told))
        self.assertTrue({None, 0, 1, 2, 3} <= lengths, lengths)

    def test_the_very_first_row(self):
        self.assertEqual(telling(F, (0, 1, 0), ()), ())
        self.assertEqual(telling(F, (), (0, 1)), (0,))
        self.assertEqual(telling(F, (), (0,)), (1, 0))
        self.assertIsNone(telling(F, (0,), (0, 0)))
        self.assertIs(alike(F, (0,), (0, 0)), True)
        self.assertIs(alike(F, (0,), (0, 1)), False)

    def test_long_journals(self):
        dice = Dice(245)
        for table in (F, T, ALL_OF_THREE):
            one = some_journal(dice, table, 400)
            self.assertIsNone(telling(table, one, one))
            told = telling(table, one, ())
            if told is not None and len(told) > 0:
                self.assertEqual(sticks_by_hand(table, one), sticks_by_hand(table, ()))
                self.assertNotEqual(sticks_by_hand(table, one + told), sticks_by_hand(table, told))

    def test_too_many_ahead_of_no_journal(self):
        for action in (alike, telling):
            for one, other in ((None, None), ((), ()), ((9,), ()), ([], [])):
                error = raised(action, FOUR, one, other)
                self.assertEqual((type(error), error.most), (TooMany, 3))
        for action in (classes, first_of_classes):
            self.assertEqual(raised(action, FOUR).most, 3)

    def test_no_journal_for_either(self):
        for thing in things():
            for action in (alike, telling):
                wrong = type(None) if is_journal_by_hand(F, thing) else NoJournal
                self.assertIs(type(raised(action, F, thing, ())), wrong)
                self.assertIs(type(raised(action, F, (0, 1), thing)), wrong)
                self.assertIs(type(raised(action, F, thing, thing)), wrong)


class ClassTests(unittest.TestCase):
    def by_hand(self, table, longest, most):
        """The first journal of each lot, by what rows of at most so many further deeds tell."""
        own, firsts = Sticking(table), {}
        for journal in own.rows(longest):
            firsts.setdefault(own.sign(journal, most), journal)
        return list(firsts.values())

    def test_tables_of_two_cells(self):
        many = set()
        for table in small_tables(246, 20):
            if len(table.kinds) < 4:
                firsts = self.by_hand(table, 4, 4)
                self.assertEqual(first_of_classes(table), firsts)
                self.assertEqual(classes(table), len(firsts))
                self.assertTrue(is_number(classes(table)))
                many.add(len(firsts))
        self.assertGreater(len(many), 2)

    def test_tables_of_three_cells(self):
        for table in (table_of(3, [(0, (0, 1)), (1, (0,))]), table_of(3, [(0, (0, 1)), (1, (0,)), (2, ())]),
                      table_of(3, [(0, (1, 2)), (1, (0,))]), table_of(3, [(2, (1, 2)), (1, (2,))])):
            firsts = self.by_hand(table, 4, 4)
            self.assertEqual(first_of_classes(table), firsts)
            self.assertEqual(classes(table), len(firsts))

    def test_firsts_are_unlike_and_all_there_are(self):
        dice = Dice(247)
        for table in [ring(3), *small_tables(248, 10, 3)]:
            firsts = first_of_classes(table)
            self.assertEqual(len(firsts), classes(table))
            self.assertEqual(firsts, sorted(firsts, key=lambda journal: (len(journal), journal)))
            self.assertEqual((firsts[0], type(firsts)), ((), list))
            for _ in range(20):
                journal = some_journal(dice, table, dice.roll(30))
                same = [first for first in firsts if alike(table, first, journal)]
                self.assertEqual(len(same), 1)
                self.assertLessEqual((len(same[0]), same[0]), (len(journal), journal))

    def test_one_just_if_no_journal_sticks(self):
        dice = Dice(249)
        tables = [table for at, table in enumerate(tables_of_two_cells()) if at % 4 == 0]
        for table in tables + [some_table(dice, 3, 8) for _ in range(60)]:
            self.assertIs(classes(table) == 1, never_sticks(table))
            if never_sticks(table):
                self.assertEqual(first_of_classes(table), [()])

    def test_all_kinds_of_three_cells(self):
        self.assertEqual(len(ALL_OF_THREE.kinds), 24)
        firsts = first_of_classes(ALL_OF_THREE)
        self.assertEqual(len(firsts), classes(ALL_OF_THREE))
        dice = Dice(250)
        for _ in range(10):
            one, other = firsts[dice.roll(len(firsts))], firsts[dice.roll(len(firsts))]
            told = telling(ALL_OF_THREE, one, other)
            if one != other:
                self.assertNotEqual(*(sticks_by_hand(ALL_OF_THREE, first + told) for first in (one, other)))

    def test_lists_are_new(self):
        first_of_classes(F).clear()
        self.assertEqual(first_of_classes(F)[0], ())


def power_by_hand(rows, many, p):
    """A matrix, multiplied by itself so often, modulo p."""
    size = range(len(rows))
    result = [[int(a == b) for b in size] for a in size]
    while many:
        if many % 2:
            result = [[sum(result[a][c] * rows[c][b] for c in size) % p for b in size] for a in size]
        rows = [[sum(rows[a][c] * rows[c][b] for c in size) % p for b in size] for a in size]
        many //= 2
    return result


class FarTests(unittest.TestCase):
    def test_a_listing_of_few_deeds(self):
        for table in small_tables(251, 15) + small_tables(252, 6, 3):
            own = Sticking(table)
            for many in range(6):
                count = sum(own.sticks(journal) for journal in all_journals(table, many))
                for p in (2, 3, 7, 999983):
                    self.assertEqual(count_far(table, many, p), count % p)

    def test_as_many_as_are_counted(self):
        dice = Dice(253)
        tables = [T, F, ring(3), ALL_OF_THREE] + [some_table(dice, 3, 10) for _ in range(6)]
        for table in tables:
            for many in (0, 3, 40, 60):
                for p in (2, 999983):
                    self.assertEqual(count_far(table, many, p), count_sticking(table, many) % p)

    def class_rows(self, table, firsts):
        """A matrix that tells how many kinds lead from class to class."""
        rows = [[0] * len(firsts) for _ in firsts]
        for at, first in enumerate(firsts):
            for kind in range(len(table.kinds)):
                then = [alike(table, first + (kind,), other) for other in firsts].index(True)
                rows[at][then] += 1
        return rows

    def test_far_away(self):
        for table in small_tables(254, 12) + [table_of(3, [(0, (0, 1)), (1, (0,)), (2, ())])]:
            firsts = first_of_classes(table)
            if len(firsts) < 12:
                rows = self.class_rows(table, firsts)
                stick = [sticks_by_hand(table, first) for first in firsts]
                for many in (61, 10 ** 18 + 9, 10 ** 30):
                    for p in (2, 5, 999983):
                        last = power_by_hand(rows, many, p)[0]
                        count = sum(count for count, flag in zip(last, stick) if flag)
                        self.assertEqual(count_far(table, many, p), count % p)

    def test_where_none_sticks(self):
        for many in (0, 5, 10 ** 30):
            self.assertEqual(count_far(T, many, 2), 0)
            self.assertTrue(is_number(count_far(T, many, 999983)))

    def test_errors_in_their_order(self):
        self.assertEqual(raised(count_far, FOUR, -1, 4).most, 3)
        self.assertIs(type(raised(count_far, F, -1, 4)), NoNumber)
        self.assertIs(type(raised(count_far, F, 1, 4)), NoPrime)
        for thing in [*things(), 10 ** 30, 10 ** 30 + 1, -1]:
            right = is_number(thing) and 0 <= thing <= 10 ** 30
            self.assertIs(type(raised(count_far, F, thing, 7)), type(None) if right else NoNumber)
            self.assertIs(type(raised(count_far, F, thing, None)), NoPrime if right else NoNumber)

    def test_no_prime(self):
        primes = [p for p in range(2, 1000) if all(p % q for q in range(2, p))]
        for p in range(-3, 1000):
            self.assertIs(type(raised(count_far, F, 3, p)), type(None) if p in primes else NoPrime)
        for p in (10 ** 6, 10 ** 6 + 3, 999983 * 2, 999983 ** 2, 10 ** 60 - 1, 999981, 997 * 997, 991 * 997, 961, 2 ** 19):
            self.assertIs(type(raised(count_far, F, 3, p)), NoPrime)
        for p in (2, 999983, 524287, 999979):
            self.assertEqual(count_far(F, 3, p), 1)
        for thing in things():
            if not is_number(thing) or thing not in primes:
                self.assertIs(type(raised(count_far, F, 3, thing)), NoPrime)


class RecurrenceTests(unittest.TestCase):
    def test_drawn_rows(self):
        dice = Dice(255)
        for p in (2, 3, 5, 101, 999983):
            for size in (1, 1, 2, 3, 5, 9):
                rows = [[dice.roll(size) for _ in range(dice.roll(5))] for _ in range(size)]
                begin = [dice.roll(p) for _ in range(size)]
                counts = begin
                for many in range(60):
                    self.assertEqual(far_first(rows, begin, many, p), counts[0])
                    counts = [sum(counts[at] for at in row) % p for row in rows]
                matrix = [[row.count(at) for at in range(size)] for row in rows]
                for many in (10 ** 6, 10 ** 30 - 7):
                    weights = power_by_hand(matrix, many, p)[0]
                    self.assertEqual(far_first(rows, begin, many, p),
                                     sum(weight * count for weight, count in zip(weights, begin)) % p)


if __name__ == "__main__":
    unittest.main()
