"""A desk, which leads benches and presses by lines."""

from laidplates.benches import Bench
from laidplates.disks import Disk
from laidplates.errors import NoLines, NoName, PlateError
from laidplates.lines import words_of
from laidplates.presses import Press, begun
from laidplates.reading import read_table
from laidplates.sticking import is_sticking
from laidplates.sweeps import sweep_order
from laidplates.texts import table_text

DONE = "ok"


class Engine:
    """A press of a table, with a disk of its own, begun with 0 in all cells."""

    def __init__(self, table):
        self.table = table
        self.disk = Disk()
        self.press = begun(self.disk, table, (0,) * table.cells)

    def begin_again(self):
        """Let the power on for good, and take the press that lies on the disk."""
        self.disk.power(None)
        self.press = Press(self.disk, self.table)


def told_add(bench, kind):
    bench.add_kind(kind)
    return DONE


def told_drop(bench, kind):
    bench.drop_kind(kind)
    return DONE


def told_cell(bench):
    bench.add_cell()
    return DONE


def told_uncell(bench, cell):
    bench.drop_cell(cell)
    return DONE


def told_back(bench):
    bench.undo()
    return DONE


def told_again(bench):
    bench.redo()
    return DONE


def told_mark(bench, name):
    bench.mark(name)
    return DONE


def told_goto(bench, name):
    bench.go_to(name)
    return DONE


def told_text(bench):
    return table_text(bench.now()).replace("\n", ";")


def told_word(bench):
    return bench.verdict()


def told_bad(bench):
    return row_or_none([",".join([str(cell) for cell in knot]) for knot in bench.bad_knots()])


def told_sticks(bench, journal):
    return "yes" if is_sticking(bench.now(), journal) else "no"


def told_do(engine, kind):
    engine.press.do(kind, sum_and_one)
    return DONE


def told_lay(engine, cell):
    engine.press.lay(cell)
    return DONE


def told_cut(engine):
    engine.press.cut()
    return DONE


def told_sweep(engine):
    order = sweep_order(engine.table)
    engine.press.sweep(tuple(range(engine.table.cells)) if order is None else order)
    return DONE


def told_on(engine):
    engine.press.go_on()
    return DONE


def told_over(engine):
    engine.press.turn_over()
    return DONE


def told_power(engine, writes):
    engine.disk.power(writes)
    return DONE


def told_open(engine):
    engine.begin_again()
    return DONE


def told_lays(engine):
    return row_or_none([str(cell) for cell in engine.press.lay_all()])


def told_values(engine):
    return " ".join([str(engine.press.value(cell)) for cell in range(engine.table.cells)])


def told_plates(engine):
    return " ".join([str(version) for version in engine.press.plates()])


def told_redone(engine):
    return str(len(engine.press.redone()))


def told_writes(engine):
    return str(engine.disk.written())


def sum_and_one(worths):
    return sum(worths) + 1


def row_or_none(words):
    return " ".join(words) if len(words) > 0 else "none"


OF_BENCHES = {
    "add": told_add,
    "drop": told_drop,
    "cell": told_cell,
    "uncell": told_uncell,
    "back": told_back,
    "again": told_again,
    "mark": told_mark,
    "goto": told_goto,
    "text": told_text,
    "word": told_word,
    "bad": told_bad,
    "sticks": told_sticks,
}

OF_ENGINES = {
    "do": told_do,
    "lay": told_lay,
    "cut": told_cut,
    "sweep": told_sweep,
    "on": told_on,
    "over": told_over,
    "power": told_power,
    "open": told_open,
    "lays": told_lays,
    "values": told_values,
    "plates": told_plates,
    "redone": told_redone,
    "writes": told_writes,
}


class Desk:
    """Benches and presses that are kept under names."""

    def __init__(self):
        self.benches = {}
        self.engines = {}

    def tell(self, line):
        """Do a line, and tell what it comes to."""
        word, name, *told = words_of(line)
        if word == "bench":
            self.benches[name] = Bench(read_table(told[0]))
            return DONE
        if word == "press":
            bench = kept_in(self.benches, told[0])
            self.engines[name] = Engine(bench.now())
            return DONE
        if word in OF_BENCHES:
            action = OF_BENCHES[word]
            bench = kept_in(self.benches, name)
            return action(bench, *told)
        action = OF_ENGINES[word]
        engine = kept_in(self.engines, name)
        return action(engine, *told)


def kept_in(shelf, name):
    if name not in shelf:
        raise NoName(name)
    return shelf[name]


def tale(lines):
    """The list of what a new desk tells to lines; for an error, the name of its class in parentheses."""
    if not isinstance(lines, (list, tuple)) or not all([isinstance(line, str) for line in lines]):
        raise NoLines()
    desk = Desk()
    return [told_or_error(desk, line) for line in lines]


def told_or_error(desk, line):
    try:
        return desk.tell(line)
    except PlateError as e:
        return "(" + type(e).__name__ + ")"
