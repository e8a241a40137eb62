"""[12.1], [12.2] with THE FACT OF KNOTS, [12.3], and [0.3], [0.4] for laidplates.benches."""

import copy
import unittest

from helping import (F, T, Dice, is_number, is_plain_by_hand, is_settled_by_hand, knots_by_hand, open_row, raised,
                     ring, row, row_by_hand, some_table, sound_by_hand, table_of, things)
from laidplates.benches import Bench, replayed
from laidplates.errors import BadChange, Full, InUse, Known, Last, NoCell, NoKind, NoMark, NothingDone
from laidplates.tables import Table

NAMES = ("a", "b", "zz", "abcdefgh")
OPEN = table_of(4, [(0, (1, 3)), (1, (0,)), (1, (2,)), (2, (1,)), (3, ())])
FULL = table_of(8, [(cell, {cell, (cell * 3 + at) % 8}) for cell in range(8) for at in range(5)])


class Own(Exception):
    """An error of an action's own."""


def is_kind_by_hand(cells, thing):
    if type(thing) is not tuple or len(thing) != 2 or not is_number(thing[0]) or thing[0] not in range(cells):
        return False
    reads = thing[1]
    if type(reads) is not tuple or len(reads) > 3 or not all(map(is_number, reads)):
        return False
    return all(read in range(cells) for read in reads) and list(reads) == sorted(set(reads))


def is_name_by_hand(thing):
    return type(thing) is str and 1 <= len(thing) <= 8 and not thing.strip("abcdefghijklmnopqrstuvwxyz")


def verdict_by_hand(table):
    if knots_by_hand(table) != sound_by_hand(table):
        return "sticks"
    if is_settled_by_hand(table):
        return "never"
    return "stuck" if is_plain_by_hand(table) else "open"


def changed_by_hand(table, word, *told):
    """The table behind a change, or the class of the error."""
    if word == "add_cell":
        return Table(table.cells + 1, table.kinds) if table.cells < 8 else Full
    what = told[0]
    if word == "drop_cell":
        if not is_number(what) or what not in range(table.cells):
            return NoCell
        if any(what == cell or what in reads for cell, reads in table.kinds):
            return InUse
        names = [cell - (cell > what) for cell in range(table.cells)]
        return Table(table.cells - 1, tuple((names[cell], tuple(names[read] for read in reads))
                                            for cell, reads in table.kinds))
    if not is_kind_by_hand(table.cells, what) or word == "drop_kind" and what not in table.kinds:
        return NoKind
    if word == "add_kind":
        if what in table.kinds:
            return Known
        return Table(table.cells, tuple(sorted({*table.kinds, what}))) if len(table.kinds) < 40 else Full
    return Table(table.cells, tuple(sorted({*table.kinds} - {what}))) if len(table.kinds) > 1 else Last


class Plain:
    """What a bench should hold: all tables and changes, how many stand, and marks."""

    def __init__(self, table):
        self.tables, self.entries, self.many, self.marks = [table], [], 0, {}

    def now(self):
        return self.tables[self.many]

    def change(self, entry, table):
        self.tables[self.many + 1:] = [table]
        self.entries[self.many:] = [entry]
        self.marks = {name: at for name, at in self.marks.items() if at <= self.many}
        self.many += 1


class BenchCase(unittest.TestCase):
    def look(self, bench, plain):
        table = plain.now()
        self.assertEqual(bench.now(), table)
        self.assertEqual(bench.knots(), knots_by_hand(table))
        sound = sound_by_hand(table)
        self.assertEqual(bench.bad_knots(), [knot for knot in knots_by_hand(table) if knot not in sound])
        self.assertEqual(bench.rows(), {knot: row_by_hand(table, knot) for knot in sound})
        self.assertEqual(bench.verdict(), verdict_by_hand(table))
        self.assertEqual(bench.journal(), plain.entries[:plain.many])
        self.assertEqual(bench.many_done(), plain.many)
        self.assertEqual(bench.marks(), tuple(sorted(plain.marks)))
        for told, kind in ((bench.knots(), list), (bench.bad_knots(), list), (bench.rows(), dict),
                           (bench.journal(), list), (bench.marks(), tuple), (bench.many_done(), int)):
            self.assertIs(type(told), kind)

    def look_back(self, bench, plain):
        """The same by going to and fro through all that was done, and to all marks; on a copy."""
        other = bench.copy()
        for name, at in plain.marks.items():
            other.go_to(name)
            self.assertEqual((other.many_done(), other.now()), (at, plain.tables[at]))
        while raised(other.undo) is None:
            self.assertEqual(other.now(), plain.tables[other.many_done()])
        self.assertEqual(other.many_done(), 0)
        while raised(other.redo) is None:
            self.assertEqual(other.now(), plain.tables[other.many_done()])
        self.assertEqual((other.many_done(), other.journal()), (len(plain.entries), plain.entries))

    def change(self, bench, plain, word, *told):
        """Do a change, or be told why not; what joined and parted tell is asked ahead."""
        table = plain.now()
        then = changed_by_hand(table, word, *told)
        asked = {"add_kind": bench.joined, "drop_kind": bench.parted}
        answer = None
        if word in asked:
            error = raised(asked[word], *told)
            self.assertIs(type(error), then if isinstance(then, type) else type(None))
            answer = None if error else asked[word](*told)
            self.assertEqual(bench.now(), table)
        error = raised(getattr(bench, word), *told)
        if isinstance(then, type):
            self.assertIs(type(error), then)
        else:
            self.assertIsNone(error)
            plain.change((word, *told), then)
            self.same_as_told(table, then, word, told, answer)
        return then

    def same_as_told(self, table, then, word, told, answer):
        knots, new = knots_by_hand(table), knots_by_hand(then)
        if word == "add_kind":
            self.assertEqual(answer, next(knot for knot in new if told[0][0] in knot))
            self.assertTrue(all(set(knot) <= set(answer) for knot in knots if knot not in new))
        if word == "drop_kind":
            whole = next(knot for knot in knots if told[0][0] in knot)
            self.assertEqual(answer, [knot for knot in new if set(knot) & set(whole)])
            self.assertEqual(sorted(answer + [knot for knot in knots if knot != whole]), new)
            self.assertIs(type(answer), list)


def some_change(dice, table):
    word = ("add_kind", "add_kind", "drop_kind", "drop_kind", "add_cell", "drop_cell")[dice.roll(6)]
    if word == "add_cell":
        return (word,)
    if word == "drop_cell":
        return word, dice.roll(table.cells + 1)
    if word == "drop_kind" and dice.roll(5):
        return word, table.kinds[dice.roll(len(table.kinds))]
    reads = {dice.roll(table.cells) for _ in range(1 + dice.roll(3) if dice.roll(5) else 0)}
    return word, (dice.roll(table.cells), tuple(sorted(reads)))


class ChangeTests(BenchCase):
    def test_many_drawn_changes(self):
        dice = Dice(221)
        seen = set()
        for at in range(25):
            table = (T, F, ring(3), row((1, 0, 2)), OPEN)[at] if at < 5 else some_table(dice, 1 + dice.roll(6), 12)
            bench, plain = Bench(table), Plain(table)
            self.look(bench, plain)
            for _ in range(50):
                self.change(bench, plain, *some_change(dice, plain.now()))
                self.look(bench, plain)
                seen.add(bench.verdict())
            self.look_back(bench, plain)
        self.assertEqual(seen, {"sticks", "never", "stuck", "open"})

    def test_verdicts(self):
        for table, word in ((T, "never"), (F, "sticks"), (ring(3), "sticks"), (row((0, 1, 2)), "never"),
                            (row((0, 1, 2, 3)), "stuck"), (open_row((0, 1, 2, 3), 0, (), ()), "stuck"),
                            (OPEN, "open"), (Table(1, ((0, ()),)), "never")):
            self.assertEqual(Bench(table).verdict(), word)
            self.assertEqual(verdict_by_hand(table), word)

    def test_what_changes_return(self):
        bench = Bench(T)
        for action, told in ((bench.add_kind, ((0, ()),)), (bench.add_cell, ()), (bench.drop_kind, ((0, (1,)),)),
                             (bench.drop_cell, (2,)), (bench.undo, ()), (bench.redo, ()), (bench.mark, ("a",)),
                             (bench.go_to, ("a",))):
            self.assertIsNone(action(*told))

    def test_greater_cells_count_one_less(self):
        bench = Bench(Table(4, ((0, (2, 3)), (2, (0,)), (3, (0, 2, 3)))))
        bench.drop_cell(1)
        self.assertEqual(bench.now(), Table(3, ((0, (1, 2)), (1, (0,)), (2, (0, 1, 2)))))
        self.assertEqual((bench.knots(), bench.journal()), ([(0, 1, 2)], [("drop_cell", 1)]))

    def test_things(self):
        for table in (T, Table(1, ((0, ()),)), FULL):
            bench = Bench(table)
            for thing in things():
                for word in ("add_kind", "drop_kind", "drop_cell"):
                    then = changed_by_hand(table, word, thing)
                    self.assertIs(type(raised(getattr(Bench(table), word), thing)),
                                  then if isinstance(then, type) else type(None))
                for action, word in ((bench.joined, "add_kind"), (bench.parted, "drop_kind")):
                    then = changed_by_hand(table, word, thing)
                    self.assertIs(type(raised(action, thing)), then if isinstance(then, type) else type(None))
            self.assertEqual((bench.now(), bench.journal()), (table, []))

    def test_no_kind_known_full(self):
        self.assertEqual(len(FULL.kinds), 40)
        bench = Bench(FULL)
        for action in (bench.add_kind, bench.joined):
            self.assertIs(type(raised(action, (8, ()))), NoKind)
            self.assertIs(type(raised(action, (0, (0, 1, 2, 3)))), NoKind)
            self.assertIs(type(raised(action, (True, ()))), NoKind)
            self.assertIs(type(raised(action, [0, ()])), NoKind)
            self.assertIs(type(raised(action, FULL.kinds[7])), Known)
            self.assertIs(type(raised(action, (0, ()))), Full)
        bench.drop_kind(FULL.kinds[7])
        bench.add_kind((0, ()))
        self.assertEqual(len(bench.now().kinds), 40)
        self.assertIs(type(raised(bench.add_kind, FULL.kinds[7])), Full)
        self.assertIs(type(raised(bench.add_cell)), Full)

    def test_no_kind_last(self):
        bench = Bench(Table(2, ((0, (1,)),)))
        for action in (bench.drop_kind, bench.parted):
            self.assertIs(type(raised(action, (0, ()))), NoKind)
            self.assertIs(type(raised(action, (False, (1,)))), NoKind)
            self.assertIs(type(raised(action, (0, [1]))), NoKind)
            self.assertIs(type(raised(action, (0, (1,)))), Last)
        bench.add_kind((0, ()))
        bench.drop_kind((0, (1,)))
        self.assertIs(type(raised(bench.drop_kind, (0, ()))), Last)

    def test_ninth_cell(self):
        bench = Bench(T)
        for cells in range(3, 9):
            bench.add_cell()
            self.assertEqual(bench.now().cells, cells)
        self.assertIs(type(raised(bench.add_cell)), Full)
        self.assertEqual((bench.now().cells, bench.many_done()), (8, 6))

    def test_no_cell_in_use(self):
        bench = Bench(Table(3, ((0, (2,)),)))
        self.assertIs(type(raised(bench.drop_cell, 3)), NoCell)
        self.assertIs(type(raised(bench.drop_cell, True)), NoCell)
        self.assertIs(type(raised(bench.drop_cell, 0)), InUse)
        self.assertIs(type(raised(bench.drop_cell, 2)), InUse)
        self.assertIs(type(raised(Bench(Table(1, ((0, ()),))).drop_cell, 0)), InUse)

    def test_joined_and_parted_step_by_step(self):
        bench = Bench(table_of(4, [(0, (1,)), (1, (0,)), (2, (3,)), (3, (2, 0))]))
        self.assertEqual(bench.joined((0, (2,))), (0, 1, 2, 3))
        self.assertEqual(bench.joined((2, (0,))), (2, 3))
        self.assertEqual(bench.parted((0, (1,))), [(1,)])
        self.assertEqual(bench.parted((3, (0, 2))), [(2,)])
        bench.add_kind((3, ()))
        self.assertEqual(bench.parted((3, (0, 2))), [(2,), (3,)])
        self.assertEqual(Bench(Table(2, ((0, ()), (1, ())))).parted((1, ())), [])
        still = Bench(table_of(3, [(0, (1,)), (2, ())]))
        self.assertEqual((still.joined((1, (0,))), still.joined((1, ()))), ((0, 1), (1,)))


class HistoryTests(BenchCase):
    def test_drawn_rows(self):
        dice = Dice(222)
        for at in range(25):
            table = some_table(dice, 1 + dice.roll(4), 6)
            bench, plain = Bench(table), Plain(table)
            for step in range(80):
                self.step(dice, bench, plain)
                if step % 5 == 0:
                    self.look(bench, plain)
                self.assertEqual((bench.marks(), bench.many_done(), bench.now()),
                                 (tuple(sorted(plain.marks)), plain.many, plain.now()))
            self.look_back(bench, plain)

    def step(self, dice, bench, plain):
        at = dice.roll(12)
        if at < 4:
            self.change(bench, plain, *some_change(dice, plain.now()))
        elif at < 7:
            told = raised(bench.undo)
            self.assertIs(type(told), NothingDone if plain.many == 0 else type(None))
            plain.many = max(0, plain.many - 1)
        elif at < 9:
            told = raised(bench.redo)
            self.assertIs(type(told), NothingDone if plain.many == len(plain.entries) else type(None))
            plain.many = min(len(plain.entries), plain.many + 1)
        elif at < 11:
            name = NAMES[dice.roll(4)]
            bench.mark(name)
            plain.marks[name] = plain.many
        else:
            name = NAMES[dice.roll(4)]
            told = raised(bench.go_to, name)
            if name in plain.marks:
                self.assertIsNone(told)
                plain.many = plain.marks[name]
            else:
                self.assertEqual((type(told), told.name), (NoMark, name))

    def test_nothing_done(self):
        bench = Bench(T)
        for action in (bench.undo, bench.redo):
            self.assertIs(type(raised(action)), NothingDone)
        bench.add_cell()
        self.assertIs(type(raised(bench.redo)), NothingDone)
        bench.undo()
        self.assertIs(type(raised(bench.undo)), NothingDone)
        bench.redo()
        bench.undo()
        bench.add_kind((0, ()))
        self.assertIs(type(raised(bench.redo)), NothingDone)

    def test_errors_leave_what_can_be_done_again(self):
        bench = Bench(T)
        bench.add_cell()
        bench.mark("a")
        bench.undo()
        self.assertIs(type(raised(bench.add_kind, T.kinds[0])), Known)
        self.assertIs(type(raised(bench.mark, "A")), NoMark)
        self.assertEqual(bench.marks(), ("a",))
        bench.redo()
        self.assertEqual(bench.now().cells, 3)

    def test_marks_that_stand_further_on_go(self):
        bench = Bench(T)
        bench.mark("zero")
        bench.add_cell()
        bench.mark("one")
        bench.add_cell()
        bench.mark("two")
        bench.add_cell()
        bench.mark("three")
        bench.go_to("one")
        self.assertEqual(bench.marks(), ("one", "three", "two", "zero"))
        bench.go_to("three")
        bench.go_to("one")
        bench.mark("again")
        bench.drop_cell(2)
        self.assertEqual(bench.marks(), ("again", "one", "zero"))
        self.assertEqual(raised(bench.go_to, "two").name, "two")
        bench.go_to("zero")
        bench.mark("one")
        bench.redo()
        bench.go_to("one")
        self.assertEqual(bench.many_done(), 0)

    def test_a_mark_is_no_change(self):
        bench = Bench(T)
        bench.add_cell()
        bench.undo()
        bench.mark("a")
        self.assertEqual((bench.many_done(), bench.journal()), (0, []))
        bench.redo()
        self.assertEqual((bench.marks(), bench.many_done()), (("a",), 1))

    def test_no_mark(self):
        wrong = ["", "abcdefghi", "A", "aB", "a1", "a b", " a", "a\n", "-", "a_", "~", "{", "`", b"a", ("a",)]
        for thing in wrong + things():
            bench = Bench(T)
            if is_name_by_hand(thing):
                bench.mark(thing)
                self.assertEqual(bench.marks(), (thing,))
            else:
                for action in (bench.mark, bench.go_to):
                    error = raised(action, thing)
                    self.assertIs(type(error), NoMark)
                    self.assertIs(error.name, thing)
                self.assertEqual(bench.marks(), ())
        self.assertEqual(raised(Bench(T).go_to, "abc").name, "abc")
        for name in ("a", "z", "abcdefgh", "zzzzzzzz"):
            self.assertIsNone(raised(bench.mark, name))

    def test_copies_go_on_apart(self):
        bench = Bench(T)
        bench.add_cell()
        bench.mark("a")
        bench.add_cell()
        bench.mark("b")
        bench.undo()
        other = bench.copy()
        self.assertIs(type(other), Bench)
        self.assertFalse(other == bench)
        other.add_kind((2, ()))
        other.mark("c")
        self.assertEqual((bench.marks(), bench.journal(), bench.now()), (("a", "b"), [("add_cell",)], Table(3, T.kinds)))
        self.assertEqual((other.marks(), other.journal()), (("a", "c"), [("add_cell",), ("add_kind", (2, ()))]))
        bench.redo()
        bench.go_to("b")
        self.assertEqual(bench.now().cells, 4)
        bench.undo()
        bench.undo()
        self.assertEqual((other.many_done(), other.now()), (2, Table(3, (*T.kinds, (2, ())))))

    def test_journals_are_new(self):
        bench = Bench(T)
        bench.add_cell()
        bench.journal().append(("add_cell",))
        bench.knots().clear()
        bench.bad_knots().append(0)
        bench.rows().clear()
        self.assertEqual((bench.journal(), bench.knots(), bench.bad_knots(), bench.rows()),
                         ([("add_cell",)], [(0, 1)], [], {(0, 1): (0, 1)}))

    def test_benches_are_equal_to_nothing_else(self):
        bench = Bench(T)
        for thing in [*things(), Bench(T), T]:
            self.assertFalse(bench == thing)


class TryingTests(BenchCase):
    def setUp(self):
        self.bench, self.plain = Bench(T), Plain(T)
        for change in (("add_kind", (0, ())), ("add_cell",), ("drop_kind", (1, (0,))), ("add_kind", (2, (0, 1)))):
            self.change(self.bench, self.plain, *change)
        self.bench.mark("b")
        self.bench.undo()
        self.bench.mark("a")
        self.bench.undo()
        self.plain.marks = {"b": 4, "a": 3}
        self.plain.many = 2

    def as_it_was(self):
        self.look(self.bench, self.plain)
        self.look_back(self.bench, self.plain)

    def test_it_returns_what_the_action_returns(self):
        for thing in (None, 0, [], (), {"a": 1}, T):
            self.assertIs(self.bench.trying(lambda bench: thing), thing)
        self.assertIs(self.bench.trying(lambda bench: bench), self.bench)
        self.as_it_was()

    def test_actions_that_change_undo_and_mark(self):
        def action(bench):
            bench.go_to("b")
            bench.undo()
            bench.mark("b")
            bench.mark("c")
            bench.undo()
            bench.undo()
            bench.undo()
            bench.add_kind((1, (0, 1)))
            bench.mark("a")
            return bench.verdict(), bench.marks(), bench.many_done()

        self.assertEqual(self.bench.trying(action), ("sticks", ("a",), 1))
        self.as_it_was()

    def test_errors_go_on(self):
        def wrong(bench):
            bench.add_cell()
            bench.mark("d")
            raise Own("wrong")

        with self.assertRaises(Own) as caught:
            self.bench.trying(wrong)
        self.assertEqual(caught.exception.args, ("wrong",))
        self.as_it_was()
        self.assertIs(type(raised(self.bench.trying, lambda bench: bench.add_cell() or bench.drop_cell(9))), NoCell)
        self.as_it_was()

    def test_trying_within_trying(self):
        def outer(bench):
            bench.add_cell()
            self.assertEqual(bench.trying(lambda inner: inner.undo() or inner.now()), Table(3, self.plain.now().kinds))
            return bench.many_done(), bench.now().cells

        self.assertEqual(self.bench.trying(outer), (3, 4))
        self.as_it_was()

    def test_copies_made_meanwhile_go_on(self):
        other = self.bench.trying(lambda bench: bench.add_cell() or bench.mark("z") or bench.copy())
        self.assertEqual((other.now().cells, other.marks()), (4, ("z",)))
        self.as_it_was()

    def test_drawn_actions(self):
        dice = Dice(223)
        for _ in range(60):
            def action(bench):
                for _ in range(dice.roll(12)):
                    word = ("undo", "redo", "mark", "go_to", "change")[dice.roll(5)]
                    if word == "change":
                        raised(getattr(bench, (change := some_change(dice, bench.now()))[0]), *change[1:])
                    elif word in ("mark", "go_to"):
                        raised(getattr(bench, word), NAMES[dice.roll(4)])
                    else:
                        raised(getattr(bench, word))
                if dice.roll(3) == 0:
                    raise NoMark("own")

            raised(self.bench.trying, action)
            self.as_it_was()


class ReplayedTests(BenchCase):
    def test_journals_are_replayed(self):
        dice = Dice(224)
        for _ in range(30):
            table = some_table(dice, 1 + dice.roll(5), 8)
            bench, plain = Bench(table), Plain(table)
            for _ in range(30):
                self.change(bench, plain, *some_change(dice, plain.now()))
                if dice.roll(4) == 0 and plain.many > 0:
                    bench.undo()
                    plain.many -= 1
            for thing in (bench.journal(), tuple(bench.journal())):
                again = replayed(table, thing)
                self.assertIs(type(again), Bench)
                self.assertEqual((again.now(), again.journal()), (bench.now(), bench.journal()))
                self.assertEqual((again.many_done(), again.marks()), (bench.many_done(), ()))
                self.assertIs(type(raised(again.redo)), NothingDone)
            while again.many_done() > 0:
                again.undo()
            self.assertEqual(again.now(), table)
        self.assertEqual(replayed(T, []).now(), T)

    def test_the_first_that_can_not_be_done(self):
        right = [("add_kind", (0, ())), ("add_cell",), ("drop_cell", 2), ("drop_kind", (0, ()))]
        wrong = [("add_kind", T.kinds[0]), ("drop_kind", (1, ())), ("drop_cell", 0), ("drop_cell", 2), ("add_cell", 0),
                 ("add_kind",), ("drop_kind",), ("drop_cell",), ("add_kind", (0, ()), 0), ("drop_cell", 2, 2), (),
                 ["add_cell"], ["add_kind", (0, ())], "add_cell", ("add_cell", ()), ("undo",), ("mark", "a"),
                 ("add_kind", [0, ()]), ("add_kind", (True, ())), ("drop_cell", True), (b"add_cell",), (0,), None,
                 (("add_cell",),), ("ADD_CELL",), ("add_cell ",)]
        self.assertEqual(replayed(T, right).journal(), right)
        for entry in wrong:
            for rows in ([entry], (*right, entry), [*right, entry, ("add_cell",)], [*right, entry, None]):
                error = raised(replayed, T, rows)
                self.assertEqual((type(error), error.index), (BadChange, 0 if len(rows) == 1 else 4), (rows, entry))
                self.assertTrue(is_number(error.index))

    def test_things(self):
        for thing in things():
            error = raised(replayed, T, thing)
            if type(thing) not in (list, tuple):
                self.assertEqual((type(error), error.index), (BadChange, -1))
            elif len(thing) > 0:
                self.assertEqual((type(error), error.index), (BadChange, 0))
            else:
                self.assertIsNone(error)
            error = raised(replayed, T, [("add_cell",), thing])
            self.assertEqual((type(error), error.index), (BadChange, 1))
            for word in ("add_kind", "drop_kind", "drop_cell"):
                then = changed_by_hand(T, word, thing)
                self.assertIs(type(raised(replayed, T, [(word, thing)])),
                              BadChange if isinstance(then, type) else type(None))
            error = raised(replayed, T, [(thing, 0)])
            self.assertEqual((type(error), error.index), (BadChange, 0))

    def test_arguments_are_not_changed(self):
        thing = [("add_cell",), ["add_kind", [0, {}]]]
        kept = copy.deepcopy(thing)
        raised(replayed, T, thing)
        self.assertEqual(thing, kept)


if __name__ == "__main__":
    unittest.main()
