"""[15.1], [15.2], and [0.3], [0.4] for laidplates.desks."""

import re
import unittest

from helping import Dice, raised, some_journal, some_table, sticks_by_hand, things
from laidplates import errors
from laidplates.benches import Bench
from laidplates.desks import Desk, tale
from laidplates.disks import Disk
from laidplates.errors import (BadTable, BadText, Harms, NoCell, NoKind, NoLine, NoLines, NoName, NoSweep, Stopped)
from laidplates.presses import Press, begun
from laidplates.reading import read_journal, read_table
from laidplates.sweeps import sweep_order
from laidplates.tables import Table
from laidplates.texts import table_text

NAME, K = "[a-z]{1,8}", "(?:0|[1-9][0-9]{0,8})"
ROW = f"{K}(?:,{K})*"
FORMS = {word: re.compile(f"{word} {more}") for word, more in {
    "bench": f"{NAME} [ -~\t]*", "add": f"{NAME} {ROW}", "drop": f"{NAME} {ROW}", "cell": NAME,
    "uncell": f"{NAME} {K}", "back": NAME, "again": NAME, "mark": f"{NAME} {NAME}", "goto": f"{NAME} {NAME}",
    "text": NAME, "word": NAME, "bad": NAME, "sticks": f"{NAME} (?:-|{ROW})", "press": f"{NAME} {NAME}",
    "do": f"{NAME} {K}", "lay": f"{NAME} {K}", "cut": NAME, "sweep": NAME, "on": NAME, "over": NAME,
    "power": f"{NAME} {K}", "open": NAME, "lays": NAME, "values": NAME, "plates": NAME, "redone": NAME, "writes": NAME,
}.items()}
OF_BENCHES = ("add", "drop", "cell", "uncell", "back", "again", "mark", "goto", "text", "word", "bad", "sticks")
B = "bench b cells 2;kind 0 1;kind 1 0;"
SIGNS = "abz 019,;-\tAB~_"


def has_form(line):
    return any(form.fullmatch(line) for form in FORMS.values())


def one_and_all(worths):
    return 1 + sum(worths)


class PlainDesk:
    """What a desk should tell, by the classes that it leads."""

    def __init__(self):
        self.benches, self.presses = {}, {}

    def tell(self, line):
        if not has_form(line):
            raise NoLine()
        word, name, rest = (line + " ").split(" ", 2)
        rest = rest[:-1]
        if word == "bench":
            self.benches[name] = Bench(read_table(rest.replace(";", "\n")))
            return "ok"
        if word == "press":
            table = self.kept(self.benches, rest).now()
            disk = Disk()
            self.presses[name] = [disk, begun(disk, table, (0,) * table.cells), table]
            return "ok"
        told = getattr(self, "tell_" + word)(self.kept(self.benches if word in OF_BENCHES else self.presses, name), rest)
        return "ok" if told is None else told

    def kept(self, shelf, name):
        if name not in shelf:
            raise NoName(name)
        return shelf[name]

    def kind(self, rest):
        cell, *reads = map(int, rest.split(","))
        return cell, tuple(reads)

    def tell_add(self, bench, rest):
        bench.add_kind(self.kind(rest))

    def tell_drop(self, bench, rest):
        bench.drop_kind(self.kind(rest))

    def tell_cell(self, bench, rest):
        bench.add_cell()

    def tell_uncell(self, bench, rest):
        bench.drop_cell(int(rest))

    def tell_back(self, bench, rest):
        bench.undo()

    def tell_again(self, bench, rest):
        bench.redo()

    def tell_mark(self, bench, rest):
        bench.mark(rest)

    def tell_goto(self, bench, rest):
        bench.go_to(rest)

    def tell_text(self, bench, rest):
        return ";".join(table_text(bench.now()).split("\n"))

    def tell_word(self, bench, rest):
        return bench.verdict()

    def tell_bad(self, bench, rest):
        return " ".join(",".join(map(str, knot)) for knot in bench.bad_knots()) or "none"

    def tell_sticks(self, bench, rest):
        if raised(read_journal, bench.now(), rest) is not None:
            return "no"
        return "yes" if sticks_by_hand(bench.now(), read_journal(bench.now(), rest)) else "no"

    def tell_do(self, kept, rest):
        kept[1].do(int(rest), one_and_all)

    def tell_lay(self, kept, rest):
        kept[1].lay(int(rest))

    def tell_cut(self, kept, rest):
        kept[1].cut()

    def tell_sweep(self, kept, rest):
        kept[1].sweep(sweep_order(kept[2]) or tuple(range(kept[2].cells)))

    def tell_on(self, kept, rest):
        kept[1].go_on()

    def tell_over(self, kept, rest):
        kept[1].turn_over()

    def tell_power(self, kept, rest):
        kept[0].power(int(rest))

    def tell_open(self, kept, rest):
        kept[0].power(None)
        kept[1] = Press(kept[0], kept[2])

    def tell_lays(self, kept, rest):
        return " ".join(map(str, kept[1].lay_all())) or "none"

    def tell_values(self, kept, rest):
        return " ".join(str(kept[1].value(cell)) for cell in range(kept[2].cells))

    def tell_plates(self, kept, rest):
        return " ".join(map(str, kept[1].plates()))

    def tell_redone(self, kept, rest):
        return str(len(kept[1].redone()))

    def tell_writes(self, kept, rest):
        return str(kept[0].written())


def told_by(desk, line):
    """What is told, or the class and the fields of the error."""
    try:
        return desk.tell(line)
    except errors.PlateError as error:
        return type(error), vars(error)


def some_line(dice, word):
    """A line of the word's form, as often as not with names and numbers that are there."""
    name, other = ("bcbcbcp" if word in OF_BENCHES + ("bench",) else "pqpqpqb")[dice.roll(7)], "bcbcp"[dice.roll(5)]
    numbers = [dice.roll(3) for _ in range(1 + dice.roll(3))]
    if word == "bench":
        table = some_table(dice, 1 + dice.roll(4), 6)
        return f"bench {name} " + table_text(table).replace("\n", ";")
    if word in ("add", "drop"):
        return f"{word} {name} " + ",".join(map(str, numbers[:1] + sorted(set(numbers[1:]))))
    if word == "sticks":
        return f"{word} {name} " + (",".join(map(str, numbers * dice.roll(3))) or "-")
    if word in ("mark", "goto", "press"):
        return f"{word} {name} {other}"
    if word in ("uncell", "do", "lay", "power"):
        return f"{word} {name} {dice.roll(2 + dice.roll(3))}"
    return f"{word} {name}"


class TellTests(unittest.TestCase):
    def test_drawn_lines(self):
        dice = Dice(261)
        seen = {}
        for _ in range(60):
            desk, plain = Desk(), PlainDesk()
            lines = [some_line(dice, "bench"), "bench c cells 2;kind 0 0 1;kind 1 0;", "press q c", B, "press p b"]
            for _ in range(120):
                words = list(FORMS) + ["do"] * 10 + ["on"] * 8 + ["lay", "lays", "over", "open"] * 3
                lines.append(some_line(dice, words[dice.roll(len(words))]))
            for line in lines:
                told = told_by(desk, line)
                self.assertEqual(told, told_by(plain, line), line)
                key = line.split(" ")[0], told if type(told) is str else told[0]
                seen[key] = seen.get(key, 0) + 1
        for word in FORMS:
            if word != "bench":
                self.assertIn((word, NoName), seen)
        for key in (("over", "ok"), ("over", NoSweep), ("lay", Harms), ("lays", errors.Stuck),
                    ("do", Stopped), ("do", NoKind), ("goto", errors.NoMark), ("sticks", "yes"),
                    ("word", "sticks"), ("bad", "none"), ("lays", "none"), ("uncell", errors.InUse)):
            self.assertIn(key, seen)

    def test_one_sign_otherwise(self):
        dice = Dice(262)
        seen = {True: 0, False: 0}
        for _ in range(2500):
            line = some_line(dice, list(FORMS)[dice.roll(len(FORMS))])
            at = dice.roll(len(line) + 1)
            line = line[:at] + SIGNS[dice.roll(len(SIGNS))] * dice.roll(2) + line[at + dice.roll(2):]
            desk, plain = Desk(), PlainDesk()
            for one in (B, "press p b", line):
                self.assertEqual(told_by(desk, one), told_by(plain, one), one)
            seen[has_form(line)] += 1
        self.assertGreater(min(seen.values()), 500)

    def test_a_bench(self):
        desk = Desk()
        for line, told in ((B, "ok"), ("word b", "never"), ("bad b", "none"), ("text b", B[8:]), ("add b 0,0,1", "ok"),
                           ("word b", "sticks"), ("bad b", "0,1"), ("sticks b 0,1,0", "no"), ("sticks b 0,2,0", "yes"),
                           ("sticks b -", "no"), ("sticks b 0,9", "no"), ("mark b a", "ok"), ("cell b", "ok"),
                           ("text b", "cells 3;kind 0 0 1;kind 0 1;kind 1 0;"), ("back b", "ok"), ("again b", "ok"),
                           ("uncell b 2", "ok"), ("goto b a", "ok"), ("text b", "cells 2;kind 0 0 1;kind 0 1;kind 1 0;"),
                           ("drop b 0,0,1", "ok"), ("text b", "cells 2;kind 0 1;kind 1 0;"), ("add b 0", "ok"),
                           ("text b", "cells 2;kind 0;kind 0 1;kind 1 0;")):
            self.assertEqual(desk.tell(line), told, line)

    def test_bad_knots(self):
        desk = Desk()
        desk.tell("bench b cells 8;kind 0 1;kind 1 2;kind 2 0;kind 3 4;kind 4 3 4;kind 5 6;kind 6 5;")
        self.assertEqual(desk.tell("bad b"), "0,1,2 3,4")

    def test_a_press(self):
        desk = Desk()
        for line, told in ((B, "ok"), ("press p b", "ok"), ("writes p", "4"), ("values p", "0 0"), ("plates p", "-1 -2"),
                           ("do p 0", "ok"), ("do p 0", "ok"), ("do p 1", "ok"), ("values p", "1 2"),
                           ("plates p", "-1 -2"), ("redone p", "0"), ("power p 0", "ok"), ("lays p", Stopped),
                           ("do p 0", Stopped), ("open p", "ok"), ("redone p", "2"), ("values p", "1 2"),
                           ("writes p", "7"), ("lay p 1", Harms), ("lay p 0", "ok"), ("plates p", "1 -2"),
                           ("lays p", "1"), ("lays p", "none"), ("cut p", "ok"), ("cut p", "ok"), ("writes p", "10"),
                           ("sweep p", "ok"), ("over p", NoSweep), ("on p", "ok"), ("on p", "ok"), ("on p", NoSweep),
                           ("over p", "ok"), ("over p", NoSweep), ("plates p", "1 2"), ("writes p", "13"),
                           ("open p", "ok"), ("redone p", "0"), ("do p 2", NoKind), ("lay p 2", NoCell)):
            found = told_by(desk, line)
            self.assertEqual(found if type(found) is str else found[0], told, line)

    def test_sums_and_one(self):
        lines = ["bench b cells 3;kind 0;kind 1 0 1 2;kind 2 0 1;", "press p b", "do p 0", "do p 1", "do p 2", "do p 1",
                 "values p"]
        self.assertEqual(tale(lines)[-1], "1 8 4")

    def test_sweeps_in_sweep_order_or_in_that_of_the_cells(self):
        for text, plates in (("cells 2;kind 0 1;kind 1;", "0 -2"), ("cells 2;kind 0;kind 1 0;", "-1 1"),
                             ("cells 2;kind 0;kind 1;", "-1 1"), ("cells 2;kind 0;kind 1;kind 1 0;", "-1 1"),
                             ("cells 2;kind 0;kind 0 1;kind 1;kind 1 0;", "-1 -2")):
            desk = Desk()
            for line in ("bench b " + text, "press p b", "sweep p", "on p", "do p 0", "do p 1", "on p", "over p"):
                self.assertEqual(desk.tell(line), "ok")
            self.assertEqual(desk.tell("plates p"), plates)

    def test_power_is_let_on_for_good(self):
        desk = Desk()
        for line in (B, "press p b", "power p 3", "open p") + ("do p 0",) * 20:
            self.assertEqual(desk.tell(line), "ok")

    def test_400_deeds(self):
        desk = Desk()
        for line in (B, "press p b") + ("do p 0", "do p 1") * 200:
            self.assertEqual(desk.tell(line), "ok")
        self.assertEqual(raised(desk.tell, "do p 0").most, 400)
        self.assertEqual(desk.tell("values p"), "399 400")

    def test_a_bench_and_a_press_of_one_name(self):
        desk = Desk()
        for line, told in ((B, "ok"), ("press b b", "ok"), ("do b 0", "ok"), ("word b", "never"), ("values b", "1 0"),
                           ("add b 0,0,1", "ok"), ("do b 2", NoKind), ("values b", "1 0"), ("press b b", "ok"),
                           ("values b", "0 0"), ("do b 2", "ok"), ("bench b cells 1;kind 0;", "ok"),
                           ("values b", "0 1"), ("do b 2", "ok"), ("press b b", "ok"), ("values b", "0"),
                           ("redone b", "0"), ("writes b", "3")):
            found = told_by(desk, line)
            self.assertEqual(found if type(found) is str else found[0], told, line)

    def test_benches_take_the_place_of_elder_ones(self):
        desk = Desk()
        for line in (B, "cell b", "mark b a", "bench b cells 1;kind 0;"):
            desk.tell(line)
        self.assertIs(type(raised(desk.tell, "back b")), errors.NothingDone)
        self.assertIs(type(raised(desk.tell, "goto b a")), errors.NoMark)
        self.assertEqual(desk.tell("text b"), "cells 1;kind 0;")
        self.assertIs(type(raised(desk.tell, "bench b cells 1;kind 1;")), BadTable)
        self.assertEqual(desk.tell("text b"), "cells 1;kind 0;")

    def test_desks_are_apart(self):
        one, other = Desk(), Desk()
        one.tell(B)
        self.assertEqual(raised(other.tell, "word b").name, "b")
        for thing in [*things(), other]:
            self.assertFalse(one == thing)


class ErrorTests(unittest.TestCase):
    def test_texts_raise_what_read_table_raises(self):
        for text, error in (("", BadText), ("cells 2", BadText), ("cells 2;", BadTable), ("cells 2;kind 0", BadText),
                            ("x;", BadText), ("cells 2; kind 0;", BadText), ("cells 2;kind 2;", BadTable),
                            ("cells 2;kind 0;;", BadText), (" cells 2;kind 0;", BadText), ("cells 2;kind 0; ", BadText)):
            found = raised(Desk().tell, "bench b " + text)
            wanted = raised(read_table, text.replace(";", "\n"))
            self.assertEqual((type(found), vars(found)), (error, vars(wanted)), text)

    def test_no_line(self):
        right = [some_line(Dice(263), word) for word in FORMS]
        for line in right:
            word, name, *rest = line.split(" ")
            wrong = [word, word + " ", f"{word} {name} ", f"{word}  {name}", f" {line}", line.replace(name, "abcdefghi", 1),
                     f"{word.upper()} {name}", line + " x", line + ",", f"{word}\t{name}", f"{word} A", f"{word} 1",
                     f"{word}s {name}", "x" + line, line + "\n", f"{word} {name.upper()} " + " ".join(rest)]
            for text in wrong:
                if not has_form(text):
                    self.assertIs(type(raised(Desk().tell, text)), NoLine, text)
                else:
                    self.assertTrue(word == "bench" or text in ("lays b", "lays c", "lays p", "lays q"), text)
        for line in ("", " ", "x", "bench", "bench b", "bench  cells 2;", "ok", "none", "press p", "press p b b",
                     "do p", "do p 1 2", "do p 01", "do p 1234567890", "do p -1", "add b", "add b 0,", "add b ,0",
                     "add b 0, 1", "add b -", "add b 00", "add b 0,01", "add b 1234567890", "sticks b", "sticks b ",
                     "sticks b --", "sticks b 0,-", "mark b", "mark b a1", "mark b abcdefghi", "goto b A", "goto b -",
                     "uncell b", "uncell b x", "power p None", "power p -", "cell b b", "open", "open p p", "lays"):
            self.assertIs(type(raised(Desk().tell, line)), NoLine, line)

    def test_numbers_of_nine_figures(self):
        desk = Desk()
        desk.tell(B)
        desk.tell("press p b")
        self.assertIs(type(raised(desk.tell, "do p 999999999")), NoKind)
        self.assertIs(type(raised(desk.tell, "lay p 999999999")), NoCell)
        self.assertIs(type(raised(desk.tell, "uncell b 999999999")), NoCell)
        self.assertIs(type(raised(desk.tell, "add b 999999999")), NoKind)
        self.assertIs(type(raised(desk.tell, "drop b 0,999999999")), NoKind)
        self.assertEqual(desk.tell("power p 999999999"), "ok")
        self.assertEqual(desk.tell("sticks b 999999999"), "no")

    def test_things(self):
        desk = Desk()
        for thing in things():
            self.assertIs(type(raised(desk.tell, thing)), NoLine)

    def test_no_name_with_the_name(self):
        desk = Desk()
        for line in (B, "press p b"):
            desk.tell(line)
        for word in FORMS:
            if word != "bench":
                line = {"add": "add {} 9", "drop": "drop {} 9", "uncell": "uncell {} 9", "mark": "mark {} b",
                        "goto": "goto {} b", "sticks": "sticks {} 9", "press": "press x {}", "do": "do {} 9",
                        "lay": "lay {} 9", "power": "power {} 9"}.get(word, word + " {}")
                for name in ("zz", "abcdefgh", "p" if word in OF_BENCHES or word == "press" else "b"):
                    error = raised(desk.tell, line.format(name))
                    self.assertEqual((type(error), error.name), (NoName, name), line)

    def test_nothing_is_kept_where_an_error_is_raised(self):
        desk = Desk()
        for line in ("bench x cells 2;", "bench x ", "press x y", "word x", "values x"):
            self.assertIsNotNone(raised(desk.tell, line))
        desk.tell(B)
        self.assertEqual(raised(desk.tell, "press b x").name, "x")
        self.assertIs(type(raised(desk.tell, "values b")), NoName)
        self.assertIs(type(raised(desk.tell, "text x")), NoName)

    def test_lays_stops_between(self):
        desk = Desk()
        for line in (B, "press p b", "do p 0", "do p 1", "power p 1"):
            desk.tell(line)
        self.assertIs(type(raised(desk.tell, "lays p")), Stopped)
        self.assertEqual((desk.tell("plates p"), desk.tell("writes p")), ("0 -2", "7"))
        self.assertIs(type(raised(desk.tell, "lays p")), Stopped)
        desk.tell("open p")
        self.assertEqual((desk.tell("redone p"), desk.tell("lays p")), ("1", "1"))


class TaleTests(unittest.TestCase):
    def test_errors_in_parentheses(self):
        lines = (B, "word x", "x", "bench c x", "bench c cells 0;kind 0;", "add b 0,1", "add b 0,9", "drop b 9", "back b",
                 "again b", "uncell b 0", "uncell b 9", "goto b a", "press p b", "do p 0", "do p 1", "do p 7", "lay p 1",
                 "lay p 9", "on p", "power p 0", "cut p", "do p 0", "bench o cells 1;kind 0;", "drop o 0")
        told = ["ok", "(NoName)", "(NoLine)", "(BadText)", "(BadTable)", "(Known)", "(NoKind)", "(NoKind)",
                "(NothingDone)", "(NothingDone)", "(InUse)", "(NoCell)", "(NoMark)", "ok", "ok", "ok", "(NoKind)",
                "(Harms)", "(NoCell)", "(NoSweep)", "ok", "ok", "(Stopped)", "ok", "(Last)"]
        self.assertEqual(tale(lines), told)
        self.assertEqual(tale(list(lines)), told)
        self.assertEqual(tale(["bench b cells 8;kind 0;", "cell b"]), ["ok", "(Full)"])
        stuck = ["bench b cells 2;kind 0 0 1;kind 1 0;", "press p b", "do p 0", "do p 1", "do p 0", "lays p"]
        self.assertEqual(tale(stuck)[-1], "(Stuck)")

    def test_each_tale_has_a_new_desk(self):
        self.assertEqual(tale([B]), ["ok"])
        self.assertEqual(tale(["word b"]), ["(NoName)"])
        self.assertEqual((tale([]), tale(())), ([], []))
        self.assertIs(type(tale(())), list)

    def test_no_lines(self):
        for thing in [*things(), [None], ["word b", 0], ("x", b"x"), [["x"]], "word b", {"a": "b"}, {0: "b"}.values()]:
            if type(thing) in (list, tuple) and all(type(line) is str for line in thing):
                self.assertEqual(tale(thing), ["(NoLine)"] * len(thing))
            else:
                self.assertIs(type(raised(tale, thing)), NoLines)

    def test_sticks_of_journals(self):
        dice = Dice(264)
        for _ in range(30):
            table = some_table(dice, 2 + dice.roll(2), 5)
            journal = some_journal(dice, table, 1 + dice.roll(6))
            text = table_text(Table(table.cells, table.kinds)).replace("\n", ";")
            told = tale([f"bench b {text}", "sticks b " + ",".join(map(str, journal)), "text b"])
            self.assertEqual(told, ["ok", "yes" if sticks_by_hand(table, journal) else "no", text])


if __name__ == "__main__":
    unittest.main()
