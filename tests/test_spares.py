"""[6.2], and [0.3], [0.4] for laidplates.spares."""

import unittest

from helping import (F, T, WITH_DEAD_ENDS, Dice, all_come_back, begins, can_lay_out, check_refusals_of_safe_plates,
                     ends_by_hand, is_safe_by_hand, knots_by_hand, plates_of, presents_by_hand, ring, row, some_cases,
                     some_journal, some_table, table_of)
from laidplates.spares import lay_out_spared
from laidplates.sticking import sticking
from laidplates.tables import Table, fresh

# Three cells, each of which needs the elder copies of both others at the end of this journal.
THREE = Table(3, ((0, (0, 1, 2)), (1, (0,)), (2, (0,))))
NEEDING_ALL = (0, 1, 2, 0)


def can_be_spared(table, journal, plates):
    """Whether there is a laying out with a spare, by going through all that can be laid and lie on the spare."""
    rows, last = ends_by_hand(table, journal)
    whole = frozenset(cell for cell in range(table.cells) if plates[cell] != last[cell])
    seen, coming = {(frozenset(), None)}, [(frozenset(), None)]
    while coming:
        laid, spare = coming.pop()
        if laid == whole:
            return True
        for cell in whole - laid:
            for then in ((laid | {cell}, spare), (laid, cell)):
                if then not in seen and all_come_back(rows, last, lying(plates, last, *then)):
                    seen.add(then)
                    coming.append(then)
    return False


def lying(plates, last, laid, spare):
    there = [last[cell] if cell in laid else version for cell, version in enumerate(plates)]
    return there if spare is None else [*there, last[spare]]


def is_right(table, journal, plates, steps):
    """Whether the steps are right, looking behind each one."""
    rows, last = ends_by_hand(table, journal)
    left = [cell for cell in range(table.cells) if plates[cell] != last[cell]]
    laid, spare = [], None
    if type(steps) is not tuple:
        return False
    for step in steps:
        if type(step) is not tuple or len(step) != 2 or type(step[1]) is not int or step[1] not in left:
            return False
        if step[0] == "lay":
            left.remove(step[1])
            laid.append(step[1])
        elif step[0] == "spare":
            spare = step[1]
        else:
            return False
        if not all_come_back(rows, last, lying(plates, last, laid, spare)):
            return False
    return left == []


def reads_one_of_its_knot(table):
    return all(len(set(reads) & set(knot)) < 2
               for knot in knots_by_hand(table) for cell, reads in table.kinds if cell in knot)


class SpareTests(unittest.TestCase):
    def same_as_by_hand(self, table, journal, plates):
        """What is told: "none", "plain" without use of the spare, or "spare"."""
        steps = lay_out_spared(table, journal, plates)
        self.assertEqual(steps, lay_out_spared(table, journal, tuple(list(plates))))
        if can_be_spared(table, journal, plates):
            self.assertTrue(is_right(table, journal, plates, steps), (table.kinds, journal, plates, steps))
            return "plain" if can_lay_out(table, journal, plates) else "spare"
        self.assertIsNone(steps)
        self.assertFalse(can_lay_out(table, journal, plates))
        self.assertFalse(reads_one_of_its_knot(table))
        return "none"

    def test_against_all_that_can_lie_there(self):
        told = {"none": 0, "plain": 0, "spare": 0}
        for table, journal, plates in [*WITH_DEAD_ENDS, *some_cases(111, 500, 5, 16)]:
            for some in (plates, fresh(table)):
                if is_safe_by_hand(table, journal, some):
                    told[self.same_as_by_hand(table, journal, some)] += 1
        dice = Dice(112)
        for _ in range(400):
            table = table_of(4, [(cell, {dice.roll(4) for _ in range(4)} - {cell}) for cell in range(4)])
            journal = some_journal(dice, table, 14)
            told[self.same_as_by_hand(table, journal, fresh(table))] += 1
        self.assertGreater(min(told.values()), 15)

    def test_all_safe_plates_of_small_journals(self):
        for table, journal, _ in some_cases(113, 50, 3, 7):
            for plates in plates_of(table, journal):
                if is_safe_by_hand(table, journal, plates):
                    self.same_as_by_hand(table, journal, plates)

    def test_up_to_eight_cells(self):
        dice = Dice(114)
        for cells in (6, 7, 8):
            for deeds in (12, 20, 30, 60, 400):
                table = some_table(dice, cells, 30)
                self.same_as_by_hand(table, some_journal(dice, table, deeds), begins(table))

    def test_there_is_none(self):
        self.assertEqual(self.same_as_by_hand(THREE, NEEDING_ALL, (-1, -2, -3)), "none")

    def test_a_stuck_journal_goes_by_the_spare(self):
        self.assertEqual(self.same_as_by_hand(F, (0, 1, 0), (-1, -2)), "spare")
        steps = lay_out_spared(F, (0, 1, 0), (-1, -2))
        self.assertEqual(steps[0][0], "spare")
        self.assertEqual(sorted(cell for word, cell in steps if word == "lay"), [0, 1])

    def test_kinds_that_read_one_cell_of_their_knot(self):
        dice = Dice(115)
        tables = [ring(3), ring(4, True), ring(8), row((0, 2, 1, 3)), T,
                  table_of(5, [(cell, (other,)) for cell in range(5) for other in range(5)]),
                  table_of(6, [(0, (1, 4)), (1, (2, 4, 5)), (2, (0, 3)), (2, (1,)), (3, (3,)), (4, (5,)), (5, (4,))])]
        told = {"plain": 0, "spare": 0}
        for table in tables:
            self.assertTrue(reads_one_of_its_knot(table))
            for at in range(40):
                journal = some_journal(dice, table, dice.roll(3 * table.cells))
                if at % 2 and sticking(table) is not None:
                    journal = journal[:at // 8] + sticking(table)
                told[self.same_as_by_hand(table, journal, begins(table))] += 1
        self.assertGreater(min(told.values()), 40)

    def test_plates_that_are_not_fresh(self):
        dice = Dice(116)
        table = table_of(4, [(cell, (other,)) for cell in range(4) for other in range(4)])
        for _ in range(40):
            journal = some_journal(dice, table, 12)
            for plates in plates_of(table, journal[:5])[::3]:
                if is_safe_by_hand(table, journal, plates):
                    self.assertIn(self.same_as_by_hand(table, journal, plates), ("plain", "spare"))

    def test_nothing_is_to_be_laid(self):
        for table, journal, _ in some_cases(117, 40, 5, 10):
            self.assertEqual(lay_out_spared(table, journal, presents_by_hand(table, journal)), ())
        self.assertEqual(lay_out_spared(F, (), (-1, -2)), ())

    def test_errors_in_their_order(self):
        check_refusals_of_safe_plates(self, lay_out_spared)


if __name__ == "__main__":
    unittest.main()
