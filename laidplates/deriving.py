"""Which versions come back from plates, and which deeds that takes."""

from laidplates.errors import NotSafe
from laidplates.tables import check_plates, is_plates, last_versions, source_rows


def derived(table, journal, plates):
    """The ascending tuple of all versions that are derived."""
    check_plates(table, journal, plates)
    marks = derived_marks(source_rows(table, journal), plates)
    return tuple(sorted(marks))


def derived_marks(rows, plates, first=0):
    """A dict whose keys are the derived versions; rows are the sources of the deeds from the number first on.

    One pass is enough, as a deed reads no versions but those ahead of it.
    """
    marks = {version: True for version in plates}
    for deed, row in enumerate(rows, start=first):
        if all([version in marks for version in row]):
            marks[deed] = True
    return marks


def lost(table, journal, plates):
    """The lot of the cells whose present is not derived."""
    check_plates(table, journal, plates)
    return lost_cells(source_rows(table, journal), last_versions(table, journal), plates)


def lost_cells(rows, last, plates, first=0):
    """The cells whose present, out of last, is not derived; rows are the sources of the deeds from first on."""
    marks = derived_marks(rows, plates, first)
    return tuple([cell for cell, version in enumerate(last) if version not in marks])


def is_safe(table, journal, thing):
    """Whether the thing is plates from which all presents are derived."""
    return is_plates(table, journal, thing) and lost(table, journal, thing) == ()


def check_safe(table, journal, plates):
    check_plates(table, journal, plates)
    if not is_safe(table, journal, plates):
        raise NotSafe()


def redo(table, journal, plates):
    """The deeds that have to be done again so that all presents are there."""
    check_safe(table, journal, plates)
    return deeds_again(source_rows(table, journal), last_versions(table, journal), plates)


def deeds_again(rows, last, plates, first=0):
    """The deeds to be done again so that the presents, last, are there; rows are the sources from first on.

    It goes from the last deed to the first, as what needs a deed is behind it.
    """
    there = {version: True for version in plates}
    needed = {version: True for version in last}
    again = []
    for at in reversed(range(len(rows))):
        if first + at in needed and first + at not in there:
            again.append(first + at)
            for version in rows[at]:
                needed[version] = True
    return tuple(sorted(again))


def can_cut(table, journal, plates):
    """How many first deeds can be forgotten, at most."""
    again = redo(table, journal, plates)
    return again[0] if len(again) > 0 else len(journal)
