"""Texts of tables, journals and runs."""

from laidplates.errors import NoRun
from laidplates.runs import is_run
from laidplates.tables import check_journal


def table_text(table):
    """A line for the cells, and one for each kind."""
    lines = [f"cells {table.cells}"]
    for cell, reads in table.kinds:
        numbers = " ".join([str(number) for number in (cell, *reads)])
        lines.append(f"kind {numbers}")
    return "".join([line + "\n" for line in lines])


def journal_text(table, journal):
    check_journal(table, journal)
    return row_text([str(kind) for kind in journal])


def run_text(table, run):
    if not is_run(table, run):
        raise NoRun()
    return row_text([f"{word} {number}" for word, number in run])


def row_text(parts):
    """Parts with commas between, or the sign for none."""
    return ",".join(parts) if len(parts) > 0 else "-"
