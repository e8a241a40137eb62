"""[3.2], and [0.3], [0.4] for laidplates.bars."""

import copy
import unittest
from itertools import combinations, product

from helping import (F, T, WITH_DEAD_ENDS, Dice, check_refusals_of_safe_plates, is_row_of_numbers, is_safe_by_hand,
                     lost_by_hand, presents_by_hand, some_cases, some_journal, some_table, things)
from laidplates.bars import bar, is_bar
from laidplates.layings import lay_out
from laidplates.tables import Table, fresh

# Cells that read one another stick soon, and in many ways.
WEB = Table(3, tuple((cell, reads) for cell in range(3) for reads in ((0, 1), (1, 2))))
FIVE = Table(5, tuple((cell, reads) for cell in range(5) for reads in ((0, 1), (2, 3, 4))))


def lots_by_hand(cells):
    return [lot for many in range(len(cells) + 1) for lot in combinations(cells, many)]


def to_lay_by_hand(table, journal, plates):
    last = presents_by_hand(table, journal)
    return tuple(cell for cell in range(table.cells) if plates[cell] != last[cell])


def lost_behind(table, journal, plates, lot):
    last = presents_by_hand(table, journal)
    return lost_by_hand(table, journal, tuple(last[c] if c in lot else plates[c] for c in range(table.cells)))


def is_bar_by_hand(table, journal, plates, thing):
    """The words of the document, one by one."""
    cells = to_lay_by_hand(table, journal, plates)
    if type(thing) is not dict or () not in thing or cells in thing:
        return False
    for lot, reasons in thing.items():
        if not is_row_of_numbers(lot) or lot not in lots_by_hand(cells):
            return False
        left = [cell for cell in cells if cell not in lot]
        if type(reasons) is not tuple or len(reasons) != len(left):
            return False
        for cell, reason in zip(left, reasons):
            then = tuple(sorted(lot + (cell,)))
            right = [("harm", c) for c in lost_behind(table, journal, plates, then)]
            right += [("then", then)] if then in thing else []
            if reason not in right or not is_strict(reason):
                return False
    return True


def is_strict(reason):
    """Whether a reason that is equal to a right one holds no flags."""
    return type(reason[1]) is int or is_row_of_numbers(reason[1])


def reasons_by_hand(case, key):
    """The last harm for each cell that is still to be laid, or the lot with it where there is none."""
    thens = [tuple(sorted(key + (cell,))) for cell in to_lay_by_hand(*case) if cell not in key]
    harms = [lost_behind(*case, then) for then in thens]
    return tuple(("harm", hurt[-1]) if hurt else ("then", then) for then, hurt in zip(thens, harms))


def barred_cases():
    """Safe plates of which there is no laying out."""
    found = []
    for table, journal, plates in some_cases(41, 400, 5, 16):
        for some in (fresh(table), plates):
            if is_safe_by_hand(table, journal, some) and lay_out(table, journal, some) is None:
                found.append((table, journal, some))
    dice = Dice(42)
    for table in [WEB, FIVE] * 40:
        journal = some_journal(dice, table, 5 + dice.roll(8))
        if lay_out(table, journal, fresh(table)) is None:
            found.append((table, journal, fresh(table)))
    return found


BARRED = barred_cases()


class BarTests(unittest.TestCase):
    def test_just_one_of_lay_out_and_bar_is_there(self):
        for table, journal, plates in some_cases(43, 150, 5, 16):
            for some in (fresh(table), plates):
                if is_safe_by_hand(table, journal, some):
                    told = bar(table, journal, some)
                    self.assertEqual(told is None, lay_out(table, journal, some) is not None)
                    self.assertIs(is_bar(table, journal, some, told), told is not None)
                    self.assertEqual(is_bar_by_hand(table, journal, some, told), told is not None)

    def test_no_bar_where_only_some_ways_lead_on(self):
        for case in WITH_DEAD_ENDS:
            self.assertIsNone(bar(*case))
            cells = to_lay_by_hand(*case)
            thing = {lot: reasons_by_hand(case, lot) for lot in lots_by_hand(cells)}
            self.assertIs(is_bar(*case, thing), False)
            del thing[cells]
            self.assertIs(is_bar(*case, thing), False)

    def test_bars_of_what_sticks(self):
        self.assertGreater(len(BARRED), 30)
        self.assertGreater(max(len(bar(*case)) for case in BARRED), 3)
        for case in BARRED:
            told = bar(*case)
            self.assertIs(type(told), dict)
            self.assertTrue(is_bar_by_hand(*case, told))
            self.assertIs(is_bar(*case, told), True)
            self.assertEqual(bar(*case), told)
            told.clear()
            self.assertTrue(is_bar(*case, bar(*case)))

    def test_the_smallest_one(self):
        self.assertEqual(bar(F, (0, 1, 0), (-1, -2)), {(): (("harm", 1), ("harm", 0))})
        self.assertIsNone(bar(T, (0, 1), (-1, -2)))
        self.assertIsNone(bar(T, (), (-1, -2)))
        self.assertIs(is_bar(T, (), (-1, -2), {(): ()}), False)
        self.assertIs(is_bar(T, (), (-1, -2), {}), False)

    def test_eight_cells_and_400_deeds(self):
        dice = Dice(44)
        for _ in range(3):
            table = some_table(dice, 8, 30)
            journal = some_journal(dice, table, 400)
            told = bar(table, journal, fresh(table))
            self.assertEqual(told is None, lay_out(table, journal, fresh(table)) is not None)
            self.assertIs(is_bar(table, journal, fresh(table), told), told is not None)


class IsBarTests(unittest.TestCase):
    def judge(self, case, thing):
        judged = is_bar(*case, thing)
        self.assertIs(judged, is_bar_by_hand(*case, thing), thing)
        return judged

    def test_changed_bars(self):
        rights = 0
        for case in BARRED[::4]:
            told = bar(*case)
            for lot, reasons in told.items():
                self.judge(case, {key: told[key] for key in told if key != lot})
                self.assertFalse(is_bar(*case, {**told, lot: list(reasons)}))
                self.assertFalse(is_bar(*case, {**told, lot: reasons[:-1]}))
                self.assertFalse(is_bar(*case, {**told, lot: reasons + reasons[-1:]}))
                self.judge(case, {**told, lot: tuple(reversed(reasons))})
                for at, (word, what) in enumerate(reasons):
                    for other in self.other_reasons(case, word, what):
                        changed = reasons[:at] + (other,) + reasons[at + 1:]
                        rights += self.judge(case, {**told, lot: changed})
        self.assertGreater(rights, 10)

    def other_reasons(self, case, word, what):
        cells = range(-1, case[0].cells + 1)
        others = [("harm", cell) for cell in cells] + [("then", lot) for lot in lots_by_hand(range(case[0].cells))]
        others += [(other, what) for other in ("harms", "Harm", "", "then", "harm", b"harm", b"then", None, 0, True)]
        others += [[word, what], (word,), (word, what, what), (), (what, word), None, word]
        others += [(word, [what]), (word, (what,))]
        others += [("harm", bool(what)), ("harm", True), ("harm", False), ("then", True), ("then", list(range(2)))]
        if word == "then":
            others += [("then", tuple(bool(cell) if cell < 2 else cell for cell in what)), ("then", list(what))]
        others += [("then", (False, True)), ("then", (True,)), ("then", (0, True)), ("then", (1, 0)), ("then", None)]
        return others

    def test_a_key_more(self):
        rights = 0
        for case in BARRED:
            told = bar(*case)
            cells = to_lay_by_hand(*case)
            self.assertFalse(is_bar(*case, {**told, cells: ()}))
            wrong = [None, 0, "", "()", (9,), (-1,), (0, 0), (1, 0), ((),), (None,), ("a",), range(0), b"", (7,)]
            for key in wrong:
                for reasons in told.values():
                    self.judge(case, {**told, key: reasons})
            for key in lots_by_hand(cells):
                if key not in told and key != cells:
                    rights += self.judge(case, {**told, key: reasons_by_hand(case, key)})
        self.assertGreater(rights, 3)

    def test_the_greatest_bars(self):
        more = 0
        for case in BARRED:
            cells = to_lay_by_hand(*case)
            keys = [lot for lot in lots_by_hand(cells) if lot != cells]
            while True:
                rows = {key: reasons_by_hand(case, key) for key in keys}
                left = [key for key in keys if all(word == "harm" or lot in keys for word, lot in rows[key])]
                if left == keys:
                    break
                keys = left
            self.assertTrue(self.judge(case, rows))
            more += len(rows) > len(bar(*case))
        self.assertGreater(more, 3)

    def test_no_bar_holds_the_whole_lot(self):
        for table, journal, plates in ((T, (0, 1), (-1, -2)), (F, (0, 1, 0), (-1, -2))):
            thing = {(): (("then", (0,)), ("then", (1,))), (0,): (("then", (0, 1)),), (1,): (("then", (0, 1)),),
                     (0, 1): ()}
            self.assertIs(is_bar(table, journal, plates, thing), False)
            del thing[(0, 1)]
            self.assertIs(is_bar(table, journal, plates, thing), False)

    def test_all_dicts_over_two_cells(self):
        harms = [("harm", 0), ("harm", 1)]
        choices = {(): list(product([*harms, ("then", (0,))], [*harms, ("then", (1,))])),
                   (0,): [(some,) for some in [*harms, ("then", (0, 1))]],
                   (1,): [(some,) for some in [*harms, ("then", (0, 1))]], (0, 1): [()]}
        for table, journal in ((T, (0, 1)), (F, (0, 1, 0)), (F, (1, 0, 1)), (T, (1, 0, 1))):
            case = (table, journal, (-1, -2))
            self.assertEqual(to_lay_by_hand(*case), (0, 1))
            found = 0
            for rows in product(*[[None, *values] for values in choices.values()]):
                thing = {key: row for key, row in zip(choices, rows) if row is not None}
                found += self.judge(case, thing)
            self.assertEqual(found > 0, lay_out(*case) is None)

    def test_things_of_every_kind(self):
        case = (F, (0, 1, 0), (-1, -2))
        for thing in things():
            for some in (thing, {(): thing}, {(): (thing, ("harm", 0))}, {(): (("harm", 1), thing)},
                         {(): (("harm", thing), ("harm", 0))}, {(): (("then", thing), ("harm", 0))},
                         {(): ((thing, 1), ("harm", 0))}, {(): (thing, thing)}):
                self.judge(case, some)
        for key in (None, "a", 0, b"", (0, 1), ("a",), ((),), len, range(2), ..., (None, 1)):
            self.assertIs(is_bar(*case, {**bar(*case), key: ()}), False)

    def test_the_thing_is_not_changed(self):
        for case in BARRED[:10]:
            told = bar(*case)
            kept = copy.deepcopy(told)
            is_bar(*case, told)
            self.assertEqual(told, kept)


class RefusalTests(unittest.TestCase):
    def test_errors_in_their_order(self):
        check_refusals_of_safe_plates(self, bar)
        check_refusals_of_safe_plates(self, is_bar, {(): ()})
        check_refusals_of_safe_plates(self, is_bar, None)


if __name__ == "__main__":
    unittest.main()
