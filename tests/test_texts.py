"""[11.1], and [0.3], [0.4] for laidplates.texts and laidplates.reading."""

import re
import unittest

from helping import (F, T, Dice, is_journal_by_hand, raised, some_journal, some_table, table_of, tables_of_two_cells,
                     things)
from laidplates.errors import BadTable, BadText, NoJournal, NoRun
from laidplates.reading import read_journal, read_run, read_table
from laidplates.runs import is_run
from laidplates.tables import Table
from laidplates.texts import journal_text, run_text, table_text

NUMBER = "(?:0|[1-9][0-9]{0,8})"
CELLS_LINE = re.compile(f"cells {NUMBER}")
KIND_LINE = re.compile(f"kind(?: {NUMBER})+")
JOURNAL = re.compile(f"-|{NUMBER}(?:,{NUMBER})*")
RUN = re.compile(f"-|(?:do|lay) {NUMBER}(?:,(?:do|lay) {NUMBER})*")
SIGNS = "0123456789 -,;\n\tabcdeklnos~"


def wrong_line_by_hand(text):
    """The number of the first line of a table's text that has not the form, or None."""
    lines = text.split("\n")
    for number, line in enumerate(lines[:-1], 1):
        if (KIND_LINE if number > 1 else CELLS_LINE).fullmatch(line) is None:
            return number
    return len(lines) if lines[-1] or len(lines) == 1 else None


def fields(error):
    return type(error), vars(error)


def some_tables(seed, many):
    dice = Dice(seed)
    found = [table for at, table in enumerate(tables_of_two_cells()) if at % 17 == 0]
    for _ in range(many):
        found.append(some_table(dice, 1 + dice.roll(8), 40))
    found.append(table_of(8, [(cell, {cell, (cell * 3 + at) % 8}) for cell in range(8) for at in range(5)]))
    return found


def some_run(dice, table, steps):
    run = ()
    for _ in range(steps):
        step = ("lay", dice.roll(table.cells)) if dice.roll(3) == 0 else ("do", dice.roll(len(table.kinds)))
        run += (step,) if is_run(table, run + (step,)) else ()
    return run


def with_one_otherwise(dice, text):
    """The text with a sign or a word of it put in, left out, or otherwise."""
    at = dice.roll(len(text) + 1)
    word = ("", " ", "0", "-", ",", "\n", "cells", "kind", "do ", "lay ", "00", "123456789", "1234567890", "\t",
            SIGNS[dice.roll(len(SIGNS))])[dice.roll(15)]
    return text[:at] + word + text[at + dice.roll(2):]


class TableTextTests(unittest.TestCase):
    def test_texts(self):
        self.assertEqual(table_text(T), "cells 2\nkind 0 1\nkind 1 0\n")
        self.assertEqual(table_text(Table(8, ((0, ()), (5, (1, 5, 7))))), "cells 8\nkind 0\nkind 5 1 5 7\n")
        self.assertEqual(read_table("cells 8\nkind 0\nkind 5 1 5 7\n"), Table(8, ((0, ()), (5, (1, 5, 7)))))

    def test_each_table_is_read_back(self):
        told = {}
        for table in some_tables(211, 150):
            text = table_text(table)
            again = read_table(text)
            self.assertEqual((again, again.cells, again.kinds), (table, table.cells, table.kinds))
            self.assertEqual(told.setdefault(text, table), table)
            self.assertTrue(text.endswith("\n"))
            self.assertEqual(text.count("\n"), 1 + len(table.kinds))
            self.assertIsNone(wrong_line_by_hand(text))
        self.assertGreater(max(len(table.kinds) for table in told.values()), 35)

    def same_as_by_hand(self, text):
        error = raised(read_table, text)
        line = wrong_line_by_hand(text)
        if line is not None:
            self.assertEqual(fields(error), (BadText, {"line": line}), repr(text))
        elif error is not None:
            rows = [tuple(map(int, row.split(" ")[1:])) for row in text.split("\n")[:-1]]
            wrong = raised(Table, rows[0][0], tuple((row[0], row[1:]) for row in rows[1:]))
            self.assertEqual(fields(error), fields(wrong), repr(text))
        else:
            self.assertEqual(table_text(read_table(text)), text)
        return type(error)

    def test_one_sign_or_word_otherwise(self):
        dice = Dice(212)
        seen = {BadText: 0, BadTable: 0, type(None): 0}
        for table in some_tables(213, 40):
            for _ in range(60):
                seen[self.same_as_by_hand(with_one_otherwise(dice, table_text(table)))] += 1
        self.assertGreater(min(seen.values()), 50)

    def test_each_line_in_turn(self):
        lines = ["cells 3", "kind 0", "kind 1 0 2", "kind 2 1"]
        for at, line in enumerate(lines):
            for wrong in ("", " ", line + " ", " " + line, line.replace(" ", "  ", 1), line.replace(" ", "\t", 1),
                          line[1:], line.upper(), line + " x", line + " -1", line + " 01", line + " 00",
                          line + " 1234567890", line + " 1,2", "cell 1", "kind", "kinds 1", "cells 3 3", "kind a",
                          "kind -1", "cells", "cells -1", "cells 03", "-", line + "\n"):
                text = "".join(row + "\n" for row in lines[:at] + [wrong] + lines[at + 1:])
                self.assertEqual(raised(read_table, text).line, at + 1 + (wrong == line + "\n"), repr(text))

    def test_the_first_of_two_wrong_lines(self):
        self.assertEqual(raised(read_table, "cells 2\nkind x\nkind y\n").line, 2)
        self.assertEqual(raised(read_table, "cells x\nkind 0\nrest").line, 1)
        self.assertEqual(raised(read_table, "cells 2\nkind x\nrest").line, 2)
        self.assertEqual(raised(read_table, "kind 0\ncells 1\n").line, 1)

    def test_what_stands_behind_the_last_line_feed(self):
        for text, line in (("", 1), ("cells 2", 1), ("x", 1), ("\n", 1), ("cells 2\nkind 0", 2), ("cells 2\nkind 0\n ", 3),
                           ("cells 2\nkind 0\nkind 1\nkind", 4), ("cells 2\nkind 0\n\n", 3)):
            self.assertEqual(fields(raised(read_table, text)), (BadText, {"line": line}), repr(text))

    def test_bad_tables_behind(self):
        for text, part, at in (("cells 0\nkind 0\n", "cells", -1), ("cells 9\nkind 0\n", "cells", -1),
                               ("cells 123456789\n", "cells", -1), ("cells 2\n", "kinds", -1),
                               ("cells 2\nkind 2\n", "kinds", 0), ("cells 2\nkind 0\nkind 0\n", "kinds", 1),
                               ("cells 2\nkind 0 1\nkind 0\n", "kinds", 1), ("cells 2\nkind 0 1 0\n", "kinds", 0),
                               ("cells 4\nkind 0 0 1 2 3\n", "kinds", 0), ("cells 2\nkind 0 0\nkind 1 2\n", "kinds", 1),
                               ("cells 2\nkind 999999999\n", "kinds", 0),
                               ("cells 8\n" + "".join(f"kind {at // 8} {at % 8}\n" for at in range(41)), "kinds", -1)):
            error = raised(read_table, text)
            self.assertEqual((type(error), error.part, error.at), (BadTable, part, at), repr(text))

    def test_numbers_of_nine_figures_alone(self):
        for text, error in (("cells 999999999\nkind 0\n", BadTable), ("cells 1000000000\nkind 0\n", BadText),
                            ("cells 2\nkind 0 100000000\n", BadTable), ("cells 2\nkind 0 1234567890\n", BadText),
                            ("cells 2\nkind 0000000000\n", BadText), ("cells 02\nkind 0\n", BadText),
                            ("cells 2\nkind 00\n", BadText)):
            self.assertIs(type(raised(read_table, text)), error, text)


class RowTextTests(unittest.TestCase):
    def test_texts(self):
        self.assertEqual(journal_text(T, ()), "-")
        self.assertEqual(journal_text(T, (0,)), "0")
        self.assertEqual(journal_text(T, (0, 1, 1)), "0,1,1")
        self.assertEqual(run_text(T, ()), "-")
        self.assertEqual(run_text(T, (("do", 0), ("lay", 0), ("do", 1))), "do 0,lay 0,do 1")

    def test_journals_are_read_back(self):
        dice = Dice(214)
        for table in some_tables(215, 20):
            told = {}
            for many in (0, 1, 1, 2, 3, 10, 400):
                journal = some_journal(dice, table, many)
                text = journal_text(table, journal)
                self.assertEqual(read_journal(table, text), journal)
                self.assertEqual(told.setdefault(text, journal), journal)
                self.assertEqual(text, ",".join(map(str, journal)) or "-")
        wide = some_tables(215, 0)[-1]
        self.assertIn("39", journal_text(wide, tuple(range(40))))

    def test_runs_are_read_back(self):
        dice = Dice(216)
        for table in some_tables(217, 20):
            told = {}
            for many in (0, 1, 2, 5, 20):
                run = some_run(dice, table, many)
                text = run_text(table, run)
                self.assertEqual(read_run(table, text), run)
                self.assertEqual(told.setdefault(text, run), run)
                self.assertEqual(text, ",".join(f"{word} {at}" for word, at in run) or "-")
        run = (("do", 0),) * 400
        self.assertEqual(read_run(T, run_text(T, run)), run)

    def same_as_by_hand(self, read, form, told, error, table, text):
        found = raised(read, table, text)
        if form.fullmatch(text) is None:
            self.assertEqual(fields(found), (BadText, {"line": 1}), repr(text))
        elif found is not None:
            self.assertIs(type(found), error)
        else:
            self.assertEqual(told(table, read(table, text)), text)
        return type(found)

    def test_one_sign_or_word_otherwise(self):
        dice = Dice(218)
        seen = {}
        for table in some_tables(219, 30):
            for _ in range(40):
                text = with_one_otherwise(dice, journal_text(table, some_journal(dice, table, dice.roll(6))))
                found = self.same_as_by_hand(read_journal, JOURNAL, journal_text, NoJournal, table, text)
                seen[found] = seen.get(found, 0) + 1
                text = with_one_otherwise(dice, run_text(table, some_run(dice, table, dice.roll(6))))
                found = self.same_as_by_hand(read_run, RUN, run_text, NoRun, table, text)
                seen[found] = seen.get(found, 0) + 1
        self.assertGreater(min(seen[error] for error in (BadText, NoJournal, NoRun, type(None))), 20)

    def test_wrong_forms_of_journals(self):
        for text in ("", " ", "--", "-,0", "0,-", ",", "0,", ",0", "0,,1", "0, 1", "0 ,1", " 0", "0 ", "0\n", "\t0", "00",
                     "01", "0,01", "1234567890", "+1", "-1", "0;1", "do 0", "0 1", "a", "(0, 1)", "0x1", "1_0", "1.0"):
            self.assertEqual(fields(raised(read_journal, T, text)), (BadText, {"line": 1}), repr(text))

    def test_wrong_forms_of_runs(self):
        for text in ("", " ", "--", "-,do 0", "do 0,-", "do 0,", ",do 0", "do 0,,do 1", "do 0, do 1", "do  0", "do 0 ",
                     " do 0", "do0", "do", "do ", "lay", "do -1", "do 00", "do 01", "do\t0", "do 0\n", "Do 0", "sweep",
                     "do 1234567890", "0", "lays 0", "do 0 0", "do 0;do 1", "lay 0,0"):
            self.assertEqual(fields(raised(read_run, T, text)), (BadText, {"line": 1}), repr(text))

    def test_errors_behind_the_form(self):
        for text in ("2", "0,2", "999999999", ",".join(["0"] * 401)):
            self.assertIs(type(raised(read_journal, T, text)), NoJournal)
        for text in ("do 2", "lay 2", "do 0,do 1,lay 1", "do 999999999", ",".join(["do 0"] * 401)):
            self.assertIs(type(raised(read_run, T, text)), NoRun)
        self.assertEqual(read_journal(T, ",".join(["1"] * 400)), (1,) * 400)


class ThingTests(unittest.TestCase):
    def test_what_is_no_string(self):
        for thing in things():
            if type(thing) is not str:
                for action in (lambda text: read_table(text), lambda text: read_journal(T, text),
                               lambda text: read_run(T, text)):
                    self.assertEqual(fields(raised(action, thing)), (BadText, {"line": 0}))
            else:
                self.assertIs(type(raised(read_table, thing)), BadText)
                self.assertEqual(raised(read_journal, T, thing).line, 1)

    def test_no_journal_and_no_run(self):
        for thing in things():
            if not is_journal_by_hand(F, thing):
                self.assertIs(type(raised(journal_text, F, thing)), NoJournal)
            if thing != () or type(thing) is not tuple:
                self.assertIs(type(raised(run_text, F, thing)), NoRun)
        for run in ((("do", 0), ("do", 1), ("lay", 1)), (("do", 2),), [("do", 0)], (["do", 0],), (("do", 0),) * 401):
            self.assertIs(type(raised(run_text, T, run)), NoRun)


if __name__ == "__main__":
    unittest.main()
