"""[8.1], [8.2], and [0.3], [0.4] for laidplates.hands."""

import unittest

from helping import (F, T, Dice, all_come_back, all_journals, begins, can_lay_out, ends_by_hand, is_journal_by_hand,
                     is_number, raised, ring, row, some_journal, some_table, table_of, tables_of_two_cells, things)
from laidplates.errors import BadHand, NoJournal, TooMany
from laidplates.hands import judged_hand, led
from laidplates.runs import is_run
from laidplates.tables import Table

# A row of two cells that read each other, and a third one that reads one of them.
TAILED = table_of(3, [(0, (1,)), (1, (0,)), (2, (1,))])


class Own(Exception):
    """An error of a hand's own."""


class OwnValue(ValueError):
    """An error of a hand's own that is also a wrong value."""


def lot_harmed(rows, last, plates, cell):
    """The lot of the cells whose present is not derived if the cell is laid, by going back from each."""
    there = plates[:cell] + (last[cell],) + plates[cell + 1:]
    return tuple(at for at, version in enumerate(last) if not all_come_back(rows, [version], there))


def view_by_hand(table, journal, plates):
    rows, last = ends_by_hand(table, journal)
    return tuple(None if plates[cell] == last[cell] else lot_harmed(rows, last, plates, cell)
                 for cell in range(table.cells))


def word_by_hand(table, view, told):
    """What is wrong with what a hand tells, but for waiting."""
    if told is None:
        return None
    if type(told) is not int or told not in range(table.cells):
        return "no cell"
    if view[told] is None:
        return "laid"
    return "harm" if view[told] else None


def answered_by_hand(table, journal, plates, hand):
    """The cells that the hand lays behind the last deed, the plates then, and the word, but for "stuck"."""
    cells = []
    last = ends_by_hand(table, journal)[1]
    while True:
        view = view_by_hand(table, journal, plates)
        told = hand(view)
        word = word_by_hand(table, view, told)
        if told is None or word is not None:
            return cells, plates, word
        cells.append(told)
        plates = plates[:told] + (last[told],) + plates[told + 1:]


def led_by_hand(table, journal, hand):
    """The run, or the pair (deeds, word)."""
    run, plates = [], begins(table)
    for deed, kind in enumerate(journal):
        cells, plates, word = answered_by_hand(table, journal[:deed + 1], plates, hand)
        if word is not None:
            return deed + 1, word
        run += [("do", kind), *(("lay", cell) for cell in cells)]
    return tuple(run)


def judged_by_hand(table, hand, most):
    """The pair of the first journal at whose end the hand is wrong, of so many deeds at most, or None."""
    coming = [((), begins(table))]
    for _ in range(most):
        further = []
        for ahead, plates in coming:
            for kind in range(len(table.kinds)):
                journal = ahead + (kind,)
                _, then, word = answered_by_hand(table, journal, plates, hand)
                if word is None and not can_lay_out(table, journal, then):
                    word = "stuck"
                if word is not None:
                    return journal, word
                further.append((journal, then))
        coming = further
    return None


def free_cells(view):
    return [cell for cell, lot in enumerate(view) if lot == ()]


def unlaid(view):
    return [cell for cell, lot in enumerate(view) if lot is not None]


def waiting(view):
    return None


def laying_at_once(view):
    return next(iter(free_cells(view)), None)


def laying_the_last(view):
    return free_cells(view)[-1] if free_cells(view) else None


def laying_any(view):
    """Lays the first cell as soon as two are to be laid, though it would harm."""
    return unlaid(view)[0] if len(unlaid(view)) > 1 else None


def laying_two(view):
    """Lays nothing before two cells are to be laid."""
    return laying_at_once(view) if len(unlaid(view)) > 1 else None


def laying_three(view):
    return laying_at_once(view) if len(unlaid(view)) > 2 else None


def laying_alone(view):
    """Lays a cell only if it is the only one; so it waits where several are left."""
    return laying_at_once(view) if len(unlaid(view)) == 1 else None


def laying_zero(view):
    return 0


def laying_zero_free(view):
    return 0 if view[0] == () else None


def laying_harmful(view):
    """Waits, but for views with two cells that would harm."""
    harmful = [cell for cell, lot in enumerate(view) if lot]
    return harmful[0] if len(harmful) > 1 else None


HANDS = (waiting, laying_at_once, laying_the_last, laying_any, laying_two, laying_three, laying_alone, laying_zero,
         laying_zero_free, laying_harmful)


class Kept:
    """A hand that keeps the views that it is passed, and what was done then."""

    def __init__(self, hand):
        self.hand = hand
        self.views = []

    def tell(self, view):
        self.views.append(view)
        return self.hand(view)


class LedTests(unittest.TestCase):
    def same_as_by_hand(self, table, journal, hand):
        """Whether the hand is not wrong; it is asked the same by both."""
        asked, own = Kept(hand), Kept(hand)
        told = led_by_hand(table, journal, own.tell)
        if told == () or type(told[0]) is tuple:
            self.assertEqual(led(table, journal, asked.tell), told)
            self.assertEqual(is_run(table, told), len(told) <= 400)
        else:
            error = raised(led, table, journal, asked.tell)
            self.assertIs(type(error), BadHand)
            self.assertEqual((error.deeds, error.word), told)
        self.assertEqual(asked.views, own.views)
        self.assertTrue(all(type(view) is tuple for view in asked.views))
        return told == () or type(told[0]) is tuple

    def test_drawn_journals(self):
        dice = Dice(131)
        told = {hand: set() for hand in HANDS}
        for _ in range(100):
            table = some_table(dice, 1 + dice.roll(6), 8)
            journal = some_journal(dice, table, dice.roll(25))
            for hand in HANDS:
                told[hand].add(self.same_as_by_hand(table, journal, hand))
        for hand in (waiting, laying_at_once, laying_the_last, laying_two, laying_zero_free):
            self.assertEqual(told[hand], {True})
        for hand in (laying_any, laying_zero, laying_harmful):
            self.assertEqual(told[hand], {True, False})

    def test_what_the_hand_is_passed(self):
        hand = Kept(waiting)
        self.assertEqual(led(T, (0, 1), hand.tell), (("do", 0), ("do", 1)))
        self.assertEqual(hand.views, [((), None), ((), (0,))])
        hand = Kept(laying_at_once)
        self.assertEqual(led(T, (0, 1), hand.tell), (("do", 0), ("lay", 0), ("do", 1), ("lay", 1)))
        self.assertEqual(hand.views, [((), None), (None, None), (None, ()), (None, None)])
        hand = Kept(laying_two)
        self.assertEqual(led(T, (0, 1), hand.tell), (("do", 0), ("do", 1), ("lay", 0)))
        self.assertEqual(hand.views, [((), None), ((), (0,)), (None, ())])
        hand = Kept(waiting)
        led(F, (0, 1, 0), hand.tell)
        self.assertEqual(hand.views, [((), None), ((), (0,)), ((1,), (0,))])

    def test_no_deeds(self):
        hand = Kept(laying_zero)
        self.assertEqual(led(T, (), hand.tell), ())
        self.assertEqual(hand.views, [])

    def test_wrong_words(self):
        for wrong in (2, -1, 3, True, False, "0", (0,), [0], b"\x00", "", (), {}, 10 ** 59, ("lay", 0), T):
            for deeds in (1, 2, 3):
                hand = Kept(lambda view: wrong if len(hand.views) == deeds else None)
                error = raised(led, T, (1, 0, 0), hand.tell)
                self.assertIs(type(error), BadHand)
                self.assertEqual((error.deeds, error.word), (deeds, "no cell"))
                self.assertEqual(len(hand.views), deeds)
        self.wrong(T, (1, 0), laying_zero, 1, "laid")
        self.wrong(T, (0,), laying_zero, 1, "laid")
        self.wrong(T, (0, 1), lambda view: 1 if view[1] is not None else None, 2, "harm")
        self.wrong(F, (0, 1, 0), lambda view: 0 if view[0] else None, 3, "harm")
        self.wrong(F, (0, 1, 0), lambda view: 1 if view[1] else None, 2, "harm")

    def wrong(self, table, journal, hand, deeds, word):
        error = raised(led, table, journal, hand)
        self.assertIs(type(error), BadHand)
        self.assertEqual((error.deeds, error.word), (deeds, word))

    def test_stuck_is_let(self):
        self.assertEqual(led(F, (0, 1, 0), waiting), (("do", 0), ("do", 1), ("do", 0)))
        self.assertEqual(led(F, (0, 1, 0, 1), laying_at_once)[-1], ("lay", 1))

    def test_things_of_every_kind_that_a_hand_tells(self):
        for thing in things():
            if thing is None:
                self.assertEqual(led(T, (0,), lambda view: thing), (("do", 0),))
                continue
            word = "laid" if is_number(thing) and thing in (0, 1) else "no cell"
            self.wrong(T, (1,), lambda view: thing, 1, word)
            self.assertEqual(judged_hand(T, lambda view: thing), ((0,), word))

    def test_errors_of_the_hand_go_on(self):
        def failing(view):
            raise Own(view)

        def failing_late(view):
            if view == (None, ()):
                raise OwnValue(view)
            return laying_at_once(view)

        def failing_like_the_package(view):
            raise BadHand(99, "own")

        for action, more in ((led, ((0, 1),)), (judged_hand, ())):
            with self.assertRaises(Own) as kept:
                action(T, *more, failing)
            self.assertEqual(kept.exception.args, (((), None),))
            with self.assertRaises(OwnValue):
                action(T, *more, failing_late)
            with self.assertRaises(BadHand) as kept:
                action(T, *more, failing_like_the_package)
            self.assertEqual(kept.exception.deeds, 99)

    def test_what_is_no_journal(self):
        for thing in things():
            if not is_journal_by_hand(T, thing):
                hand = Kept(waiting)
                self.assertIs(type(raised(led, T, thing, hand.tell)), NoJournal)
                self.assertEqual(hand.views, [])
        for wrong in ([0], (2,), (-1,), (True,), (0,) * 401, "0", None):
            self.assertIs(type(raised(led, T, wrong, laying_zero)), NoJournal)

    def test_400_deeds(self):
        dice = Dice(132)
        for table in (T, F, some_table(dice, 8, 20)):
            journal = some_journal(dice, table, 400)
            run = led(table, journal, laying_at_once)
            self.assertEqual(len([step for step in run if step[0] == "do"]), 400)
            self.assertEqual(tuple(step[1] for step in run if step[0] == "do"), journal)
            self.assertEqual(led(table, journal, waiting), tuple(("do", kind) for kind in journal))
            self.assertGreater(len(run), 500)
            self.assertIs(is_run(table, run), False)
            self.assertIs(is_run(table, run[:400]), True)
        self.assertEqual(led(T, (0, 1) * 200, laying_at_once), led_by_hand(T, (0, 1) * 200, laying_at_once))


class JudgedTests(unittest.TestCase):
    def same_as_by_hand(self, table, hand, most):
        own = judged_by_hand(table, hand, most)
        told = judged_hand(table, hand)
        self.assertEqual(told, judged_hand(Table(table.cells, table.kinds), hand))
        if own is None and told is not None:
            self.assertGreater(len(told[0]), most)
            self.wrong_at_the_end(table, hand, told)
        else:
            self.assertEqual(told, own)
            self.assertIs(type(told), type(own))
        return None if told is None else told[1]

    def wrong_at_the_end(self, table, hand, told):
        """Whether the hand is wrong behind the last deed of the journal with this word, and not ahead."""
        journal, word = told
        plates = begins(table)
        for deeds in range(1, len(journal) + 1):
            _, plates, wrong = answered_by_hand(table, journal[:deeds], plates, hand)
            if wrong is None and not can_lay_out(table, journal[:deeds], plates):
                wrong = "stuck"
            self.assertEqual(wrong, word if deeds == len(journal) else None)

    def test_tables_of_two_cells(self):
        words = {}
        for at, table in enumerate(tables_of_two_cells()):
            if len(table.kinds) < 4 or at % 9 == 0:
                for hand in HANDS:
                    word = self.same_as_by_hand(table, hand, 4)
                    words[word] = words.get(word, 0) + 1
        self.assertEqual(set(words), {None, "laid", "harm", "stuck"})

    def test_tables_of_three_cells(self):
        dice = Dice(133)
        words = {}
        for _ in range(40):
            table = some_table(dice, 3, 5)
            for hand in HANDS:
                word = self.same_as_by_hand(table, hand, 4)
                words[word] = words.get(word, 0) + 1
        self.assertGreater(min(words.values()), 5)
        self.assertEqual(set(words), {None, "laid", "harm", "stuck"})

    def test_hands_that_are_never_wrong(self):
        for table in (T, F, TAILED, ring(3), row((0, 1, 2)), Table(1, ((0, (0,)),))):
            self.assertIsNone(judged_hand(table, laying_at_once))
            self.assertIsNone(judged_hand(table, laying_the_last))
        for table in (T, row((0, 1, 2)), TAILED):
            for hand in (waiting, laying_two, laying_three, laying_zero_free):
                self.assertIsNone(judged_hand(table, hand))
            self.assertIsNone(judged_by_hand(table, waiting, 4))

    def test_the_first_journal_and_its_word(self):
        self.assertEqual(judged_hand(F, waiting), ((0, 1, 0), "stuck"))
        self.assertEqual(judged_hand(T, laying_zero), ((0,), "laid"))
        self.assertEqual(judged_hand(T, lambda view: 2), ((0,), "no cell"))
        self.assertEqual(judged_hand(T, lambda view: True), ((0,), "no cell"))
        self.assertEqual(judged_hand(T, lambda view: 1 if view[1] else None), ((0, 1), "harm"))
        self.assertEqual(judged_hand(T, lambda view: 0 if view[0] else None), ((1, 0), "harm"))
        self.assertEqual(judged_hand(ring(3), waiting), ((0, 1, 2, 0), "stuck"))

    def test_hands_that_are_wrong_late(self):
        """What a hand is passed that is first passed behind many deeds, it answers wrongly."""
        late = {((1,), (), ()): 8}
        for target, deeds in late.items():
            for told, word in ((3, "no cell"), (-1, "no cell"), (0, "harm"), ("1", "no cell")):
                hand = wrong_at(laying_three, target, told)
                journal, found = judged_hand(TAILED, hand)
                self.assertEqual((len(journal), found), (deeds, word))
                self.wrong_at_the_end(TAILED, hand, (journal, found))
            self.assertEqual(judged_by_hand(TAILED, wrong_at(laying_three, target, 3), deeds), (journal, "no cell"))
        views = set()
        judged_hand(TAILED, lambda view: views.add(view) or laying_three(view))
        self.assertGreater(len(views), 15)
        for view in views:
            self.same_as_by_hand(TAILED, wrong_at(laying_three, view, 3), 5)

    def test_all_that_a_hand_is_passed(self):
        """It is passed just the views to which journals lead."""
        for table in (T, F, table_of(3, [(0, (1,)), (1, (2,)), (2, (1,))])):
            own, views = set(), set()
            for journal in all_journals(table, 6):
                led(table, journal, lambda view: own.add(view) or laying_at_once(view))
            self.assertIsNone(judged_hand(table, lambda view: views.add(view) or laying_at_once(view)))
            self.assertEqual(views, own)

    def test_more_than_three_cells(self):
        for cells in range(4, 9):
            hand = Kept(waiting)
            error = raised(judged_hand, Table(cells, T.kinds), hand.tell)
            self.assertIs(type(error), TooMany)
            self.assertEqual(error.most, 3)
            self.assertEqual(hand.views, [])
        self.assertIsNone(judged_hand(Table(3, T.kinds), waiting))


def wrong_at(hand, target, told):
    """A hand that tells this when it is passed the target."""
    return lambda view: told if view == target else hand(view)


if __name__ == "__main__":
    unittest.main()
