"""Strangers' hands, which say what is laid while deeds are done, and whether they are ever wrong."""

from laidplates.deriving import lost_cells
from laidplates.errors import BadHand
from laidplates.layings import laid
from laidplates.standings import Cases, check_few_cells
from laidplates.tables import check_journal, fresh, last_versions, source_rows
from laidplates.things import is_number_below


def wrong_word(view, told):
    """What is wrong with a hand that tells this for the view, but for waiting; None if nothing is."""
    if told is None:
        return None
    if not is_number_below(len(view), told):
        return "no cell"
    if view[told] is None:
        return "laid"
    return None if view[told] == () else "harm"


def led(table, journal, hand):
    """The run to which a hand leads."""
    check_journal(table, journal)
    rows = source_rows(table, journal)
    plates = fresh(table)
    run = []
    for deed, kind in enumerate(journal):
        run.append(("do", kind))
        last = last_versions(table, journal[:deed + 1])
        told = tell(hand, view_of(rows[:deed + 1], last, plates), deed + 1)
        while told is not None:
            run.append(("lay", told))
            plates = laid(last, plates, (told,))
            told = tell(hand, view_of(rows[:deed + 1], last, plates), deed + 1)
    return tuple(run)


def tell(hand, view, deeds):
    """What the hand tells for the view, so many deeds being done."""
    told = hand(view)
    word = wrong_word(view, told)
    if word is not None:
        raise BadHand(deeds, word)
    return told


def view_of(rows, last, plates):
    """The view of plates; rows are the sources of the deeds done, last are the presents."""
    view = []
    for cell, version in enumerate(plates):
        if version == last[cell]:
            view.append(None)
        else:
            view.append(lost_cells(rows, last, laid(last, plates, (cell,))))
    return tuple(view)


def judged_hand(table, hand):
    """None if the hand is never wrong, or the pair of the first journal at whose end it is, and the word.

    The standings behind what it lays tell all that it can ever be asked.
    """
    check_few_cells(table)
    cases = Cases(table.cells)
    seen = {cases.beginning(): True}
    coming = [((), cases.beginning())]
    while len(coming) > 0:
        further = []
        for journal, standing in coming:
            for number, kind in enumerate(table.kinds):
                word, then = led_from(cases, cases.done(standing, kind), hand)
                if word is not None:
                    return journal + (number,), word
                if then not in seen:
                    seen[then] = True
                    further.append((journal + (number,), then))
        coming = further
    return None


def led_from(cases, standing, hand):
    """The pair (word, standing) when the hand waits, or is wrong; the word is None if it is not."""
    view = view_from(cases, standing)
    told = hand(view)
    while told is not None:
        word = wrong_word(view, told)
        if word is not None:
            return word, standing
        standing = cases.laid(standing, told)
        view = view_from(cases, standing)
        told = hand(view)
    if cases.is_stuck(standing):
        return "stuck", standing
    return None, standing


def view_from(cases, standing):
    return tuple([None if held else cases.lost(standing, (cell,)) for cell, held in enumerate(standing[1])])
