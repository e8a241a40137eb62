"""Reading texts of tables, journals and runs."""

from laidplates.errors import BadText, NoRun
from laidplates.runs import is_run
from laidplates.tables import Table, check_journal

MOST_FIGURES = 9


def number_in(word):
    """The number that a word is, without needless zeros, of few figures; or None."""
    if not word.isdigit() or len(word) > MOST_FIGURES:
        return None
    return int(word) if word == "0" or word[0] != "0" else None


def all_or_none(parts):
    """The tuple of the parts, or None if one of them is None."""
    return None if None in parts else tuple(parts)


def numbers_in(words):
    """The tuple of the numbers that words are, or None."""
    return all_or_none([number_in(word) for word in words])


def row_in(text, read_part):
    """The tuple of what the parts of a text with commas between are, or None; the sign for none is none."""
    return () if text == "-" else all_or_none([read_part(part) for part in text.split(",")])


def journal_in(text):
    """The tuple of numbers that has the form of a journal's text, or None."""
    return row_in(text, number_in)


def step_in(text):
    """The step of a run that a text is, or None."""
    words = text.split(" ")
    if len(words) != 2 or words[0] not in ("do", "lay"):
        return None
    number = number_in(words[1])
    return None if number is None else (words[0], number)


def check_string(text):
    if not isinstance(text, str):
        raise BadText(0)


def read_table(text):
    """The table of a text."""
    check_string(text)
    *lines, rest = text.split("\n")
    rows = []
    for at, line in enumerate(lines):
        word, *words = line.split(" ")
        numbers = numbers_in(words)
        if numbers is None or not is_line(at, word, numbers):
            raise BadText(at + 1)
        rows.append(numbers)
    if rest != "" or len(lines) == 0:
        raise BadText(len(lines) + 1)
    return Table(rows[0][0], tuple([(numbers[0], numbers[1:]) for numbers in rows[1:]]))


def is_line(at, word, numbers):
    """Whether the line at this place of a table's text can be this word and these numbers."""
    if at == 0:
        return word == "cells" and len(numbers) == 1
    return word == "kind" and len(numbers) > 0


def read_journal(table, text):
    """The journal of a text."""
    check_string(text)
    journal = journal_in(text)
    if journal is None:
        raise BadText(1)
    check_journal(table, journal)
    return journal


def read_run(table, text):
    """The run of a text."""
    check_string(text)
    run = row_in(text, step_in)
    if run is None:
        raise BadText(1)
    if not is_run(table, run):
        raise NoRun()
    return run
