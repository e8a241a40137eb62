"""[2.2], and [0.3], [0.4] for laidplates.worlds."""

import unittest
from itertools import product

from helping import (F, T, Dice, is_journal_by_hand, is_plates_by_hand, is_row_of_numbers, is_safe_by_hand,
                     plates_of, presents_by_hand, raised, some_cases, some_journal, some_plates, some_table,
                     sources_by_hand, things)
from laidplates.errors import NoJournal, NoPlates, NoWorld
from laidplates.tables import Table, fresh
from laidplates.worlds import bits_of, is_parting, parting


def bits_by_hand(table, journal, functions, begin):
    bits = {-1 - cell: bit for cell, bit in enumerate(begin)}
    for deed in range(len(journal)):
        told = "".join(str(bits[version]) for version in sources_by_hand(table, journal, deed))
        bits[deed] = functions[deed][int(told or "0", 2)]
    return bits


def is_bits_by_hand(many, thing):
    return is_row_of_numbers(thing) and len(thing) == many and all(bit in (0, 1) for bit in thing)


def is_functions_by_hand(table, journal, thing):
    if type(thing) is not tuple or len(thing) != len(journal):
        return False
    return all(is_bits_by_hand(2 ** len(table.kinds[kind][1]), bits) for kind, bits in zip(journal, thing))


def is_parting_by_hand(table, journal, plates, thing):
    if type(thing) is not tuple or len(thing) != 3 or not is_functions_by_hand(table, journal, thing[0]):
        return False
    if not is_bits_by_hand(table.cells, thing[1]) or not is_bits_by_hand(table.cells, thing[2]):
        return False
    one = bits_by_hand(table, journal, thing[0], thing[1])
    other = bits_by_hand(table, journal, thing[0], thing[2])
    last = presents_by_hand(table, journal)
    return all(one[v] == other[v] for v in plates) and any(one[v] != other[v] for v in last)


def worlds_of(table, journal):
    functions = [list(product((0, 1), repeat=2 ** len(table.kinds[kind][1]))) for kind in journal]
    begins = list(product((0, 1), repeat=table.cells))
    return product(product(*functions), begins, begins)


class BitsTests(unittest.TestCase):
    def test_deeds_that_read_none_one_three_and_what_they_write(self):
        table = Table(3, ((0, ()), (0, (0,)), (1, (0, 1, 2)), (2, (1,))))
        three = (0, 1, 1, 0, 0, 0, 1, 0)
        functions = ((1,), (1, 0), three, (1, 0), three)
        self.assertEqual(bits_of(table, (0, 1, 2, 3, 2), functions, (0, 0, 1)), (1, 0, 1, 0, 1))
        for number in range(8):
            begin = (number // 4, number // 2 % 2, number % 2)
            self.assertEqual(bits_of(table, (2,), (three,), begin), (three[number],))
        self.assertEqual(bits_of(table, (), (), (1, 0, 1)), ())
        self.assertEqual(bits_of(table, (0,), ((0,),), (1, 1, 1)), (0,))

    def test_bits_by_hand(self):
        dice = Dice(21)
        for table, journal, _ in some_cases(22, 100, 8, 40):
            functions = tuple(tuple(dice.roll(2) for _ in range(2 ** len(table.kinds[kind][1]))) for kind in journal)
            begin = tuple(dice.roll(2) for _ in range(table.cells))
            bits = bits_by_hand(table, journal, functions, begin)
            told = bits_of(table, journal, functions, begin)
            self.assertEqual(told, tuple(bits[deed] for deed in range(len(journal))))
            self.assertEqual(told, bits_of(table, journal, functions, begin))

    def test_a_journal_of_400_deeds(self):
        table = Table(1, ((0, (0,)),))
        self.assertEqual(bits_of(table, (0,) * 400, ((1, 0),) * 400, (0,)), (1, 0) * 200)

    def test_no_journal_ahead_of_no_world(self):
        for thing in things():
            if not is_journal_by_hand(T, thing):
                self.assertIs(type(raised(bits_of, T, thing, ((0, 1), (1, 0)), (0, 1))), NoJournal)
                self.assertIs(type(raised(bits_of, T, thing, None, thing)), NoJournal)

    def test_wrong_functions(self):
        good = (0, 1)
        for wrong in ((), (good,), (good,) * 3, [good, good], (list(good), good), (good, [1, 0]), (good, (0,)),
                      (good, (0, 1, 1)), (good, ()), (good, (0, 2)), (good, (0, -1)), (good, (False, True)),
                      (good, (0, True)), (good, (None, 0)), (good, None), (good, "01"), ((True, 0), good),
                      (good, b"01"), None, "", T, (T, T), (good, (T, 0))):
            self.assertIs(type(raised(bits_of, T, (0, 1), wrong, (0, 1))), NoWorld, wrong)
        two = Table(2, ((0, (0, 1)), (1, ())))
        self.assertEqual(bits_of(two, (0, 1), ((0, 0, 0, 1), (1,)), (1, 1)), (1, 1))
        for wrong in (((0, 0, 0, 1), (1, 0)), ((0, 1), (1,)), ((0, 0, 0, 1), ()), ((0, 0, 0, 1, 0), (1,))):
            self.assertIs(type(raised(bits_of, two, (0, 1), wrong, (0, 1))), NoWorld, wrong)

    def test_wrong_beginnings(self):
        for wrong in ((), (0,), (0, 1, 0), [0, 1], (0, 2), (0, -1), (-1, 0), (False, True), (0, True), "01", b"01",
                      None, (None, 0), (T, 0), ((0,), 1), 1, {0: 1, 1: 0}):
            self.assertIs(type(raised(bits_of, T, (0, 1), ((0, 1), (1, 0)), wrong)), NoWorld, wrong)

    def test_things_of_every_kind(self):
        right = ((0, 1), (1, 0))
        for thing in things():
            for functions, begin in ((thing, (0, 1)), ((right[0], thing), (0, 1)), ((thing, right[1]), (0, 1)),
                                     (((0, thing), (1, 0)), (0, 1)), (right, thing), (right, (thing, 0)),
                                     (right, (0, thing)), (thing, thing)):
                judged = is_functions_by_hand(T, (0, 1), functions) and is_bits_by_hand(2, begin)
                error = raised(bits_of, T, (0, 1), functions, begin)
                self.assertIs(type(error), type(None) if judged else NoWorld)


class PartingTests(unittest.TestCase):
    def test_a_world_parts_just_if_the_plates_are_not_safe(self):
        seen = {True: 0, False: 0}
        for table, journal, _ in some_cases(23, 150, 3, 6):
            for plates in plates_of(table, journal):
                world = parting(table, journal, plates)
                safe = is_safe_by_hand(table, journal, plates)
                seen[safe] += 1
                self.assertEqual(world is None, safe)
                self.assertIs(is_parting(table, journal, plates, world), not safe)
                self.assertIs(is_parting_by_hand(table, journal, plates, world), not safe)
                self.assertEqual(parting(table, journal, plates), world)
        self.assertGreater(min(seen.values()), 50)

    def test_eight_cells_and_forty_deeds(self):
        dice = Dice(24)
        seen = {True: 0, False: 0}
        for _ in range(60):
            table = some_table(dice, 8, 12)
            journal = some_journal(dice, table, 40)
            for plates in (some_plates(dice, table, journal), fresh(table), presents_by_hand(table, journal)):
                world = parting(table, journal, plates)
                safe = is_safe_by_hand(table, journal, plates)
                seen[safe] += 1
                self.assertEqual(world is None, safe)
                self.assertIs(is_parting_by_hand(table, journal, plates, world), not safe)
        self.assertGreater(min(seen.values()), 10)

    def test_all_worlds_of_small_journals(self):
        half = Table(2, ((0, (0,)), (0, (1,)), (1, ()), (1, (0,))))
        for table, journals in ((T, ((), (0,), (0, 1), (1, 0))), (F, ((0,), (1,))), (half, ((0, 3), (1, 2), (3, 2)))):
            for journal in journals:
                for plates in plates_of(table, journal):
                    some = False
                    for world in worlds_of(table, journal):
                        judged = is_parting(table, journal, plates, world)
                        self.assertIs(judged, is_parting_by_hand(table, journal, plates, world))
                        some = some or judged
                    self.assertEqual(some, not is_safe_by_hand(table, journal, plates))

    def test_a_world_by_its_meaning(self):
        functions = ((0, 1), (0, 1))
        self.assertIs(is_parting(T, (0, 1), (-1, 1), (functions, (0, 0), (0, 1))), False)
        self.assertIs(is_parting(T, (0, 1), (-1, 1), (((0, 1), (0, 0)), (0, 0), (0, 1))), True)
        self.assertIs(is_parting(T, (0, 1), (-1, 1), (((0, 1), (0, 0)), (1, 1), (1, 0))), True)
        self.assertIs(is_parting(T, (0, 1), (-1, 1), (((0, 1), (0, 0)), (1, 1), (0, 0))), False)
        self.assertIs(is_parting(T, (0, 1), (-1, 1), (((0, 1), (0, 0)), (0, 1), (0, 1))), False)

    def test_things_that_are_no_world(self):
        right = (((0, 1), (0, 0)), (0, 0), (0, 1))
        self.assertIs(is_parting(T, (0, 1), (-1, 1), right), True)
        functions, one, other = right
        for wrong in (list(right), right[:2], right + ((0, 1),), (list(functions), one, other),
                      (functions, list(one), other), (functions, one, list(other)), (functions[:1], one, other),
                      (functions + ((0,),), one, other), (functions, one + (0,), other), (functions, one, other + (0,)),
                      (functions, one[:1], other), (functions, one, other[:1]), (functions, (False, 0), other),
                      (functions, one, (0, True)), (functions, one, (0, 2)), (functions, (0, -1), other),
                      (((0, True), (0, 0)), one, other), (((0, 2), (0, 0)), one, other), ((), one, other),
                      ((functions[0], [0, 0]), one, other), (one, functions, other), ((functions,), one, other)):
            self.assertIs(is_parting(T, (0, 1), (-1, 1), wrong), False, wrong)

    def test_things_of_every_kind(self):
        functions, one, other = (((0, 1), (0, 0)), (0, 0), (0, 1))
        for thing in things():
            for plates in ((-1, 1), (-1, -2)):
                for world in (thing, (thing, one, other), (functions, thing, other), (functions, one, thing),
                              (functions, one, (0, thing)), (((0, thing), (0, 0)), one, other), (thing,) * 3):
                    judged = is_parting(T, (0, 1), plates, world)
                    self.assertIs(judged, is_parting_by_hand(T, (0, 1), plates, world))

    def test_errors_in_their_order(self):
        world = (((0, 1), (0, 0)), (0, 0), (0, 1))
        for thing in things():
            if not is_journal_by_hand(T, thing):
                self.assertIs(type(raised(parting, T, thing, (-1, -2))), NoJournal)
                self.assertIs(type(raised(parting, T, thing, thing)), NoJournal)
                self.assertIs(type(raised(is_parting, T, thing, thing, thing)), NoJournal)
            if not is_plates_by_hand(T, (0, 1), thing):
                self.assertIs(type(raised(parting, T, (0, 1), thing)), NoPlates)
                self.assertIs(type(raised(is_parting, T, (0, 1), thing, world)), NoPlates)
                self.assertIs(type(raised(is_parting, T, (0, 1), thing, thing)), NoPlates)


if __name__ == "__main__":
    unittest.main()
