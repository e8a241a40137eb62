"""The forms of the lines by which a desk works."""

from laidplates.errors import NoLine
from laidplates.reading import journal_in, number_in, numbers_in
from laidplates.things import is_name

FORMS = {
    "bench": ("name", "text"),
    "add": ("name", "kind"),
    "drop": ("name", "kind"),
    "cell": ("name",),
    "uncell": ("name", "number"),
    "back": ("name",),
    "again": ("name",),
    "mark": ("name", "name"),
    "goto": ("name", "name"),
    "text": ("name",),
    "word": ("name",),
    "bad": ("name",),
    "sticks": ("name", "journal"),
    "press": ("name", "name"),
    "do": ("name", "number"),
    "lay": ("name", "number"),
    "cut": ("name",),
    "sweep": ("name",),
    "on": ("name",),
    "over": ("name",),
    "power": ("name", "number"),
    "open": ("name",),
    "lays": ("name",),
    "values": ("name",),
    "plates": ("name",),
    "redone": ("name",),
    "writes": ("name",),
}


def words_of(line):
    """The list of the first word of a line, and of what each further one means."""
    if not isinstance(line, str) or "\n" in line:
        raise NoLine()
    first = line.split(" ")[0]
    if first not in FORMS:
        raise NoLine()
    forms = FORMS[first]
    # The last word takes all that is left, as a text has blanks in it; no other form has.
    words = line.split(" ", len(forms))[1:]
    if len(words) != len(forms):
        raise NoLine()
    meant = [meaning(form, word) for form, word in zip(forms, words)]
    if None in meant:
        raise NoLine()
    return [first, *meant]


def meaning(form, word):
    """What a word means that should have this form, or None if it has not."""
    if form == "name":
        return word if is_name(word) else None
    if form == "number":
        return number_in(word)
    if form == "kind":
        return kind_in(word)
    if form == "journal":
        return journal_in(word)
    return word.replace(";", "\n")


def kind_in(word):
    numbers = numbers_in(word.split(","))
    return None if numbers is None else (numbers[0], numbers[1:])
