"""[10.1], [10.2], [10.3] with THE SEVENTH FACT, and [0.3], [0.4] for laidplates.presses."""

import unittest
from itertools import permutations

from helping import (F, T, Dice, begins, can_lay_out, is_number, raised, ring, row, some_table, table_of, things,
                     ties_by_hand)
from laidplates.disks import Disk
from laidplates.errors import (Harms, NoBegins, NoCell, NoKind, NoOrder, NoPress, NoSweep, NotSafe, Stopped, Stuck,
                               TooMany)
from laidplates.presses import Press, begun
from laidplates.tables import Table


class Own(Exception):
    """An error of a maker's own."""


def made(tag, worths):
    """A number that tells which deed read what, as far as numbers can."""
    return (tag * 31 + sum((at + 5) * worth for at, worth in enumerate(worths)) + 1) % 1000003


class Plain:
    """What a press should hold, worked out from all deeds ever done."""

    def __init__(self, table, worths):
        self.table = table
        self.kinds, self.rows, self.calls = [], [], []
        self.worths = {-1 - cell: worth for cell, worth in enumerate(worths)}
        self.side, self.first, self.ahead = 0, 0, begins(table)
        self.sets = [dict(enumerate(begins(table))), {}]
        self.order, self.many_swept = None, 0

    def last_ahead_of(self, deed):
        last = list(begins(self.table))
        for at, kind in enumerate(self.kinds[:deed]):
            last[self.table.kinds[kind][0]] = at
        return tuple(last)

    def last(self):
        return self.last_ahead_of(len(self.kinds))

    def plates(self):
        return tuple(self.sets[self.side][cell] for cell in range(self.table.cells))

    def comes_back(self, version, there):
        """Whether a version does, by the deeds kept alone."""
        seen, coming = set(there), [version]
        while coming:
            one = coming.pop()
            if one not in seen:
                if one < self.first:
                    return False
                seen.add(one)
                coming.extend(self.rows[one])
        return True

    def lost(self, plates):
        return tuple(cell for cell, version in enumerate(self.last()) if not self.comes_back(version, plates))

    def harmed(self, cell):
        plates = list(self.plates())
        plates[cell] = self.last()[cell]
        return self.lost(plates)

    def needed(self):
        """The deeds to be done again, going back from the presents to what lies on plates."""
        seen, coming = set(), list(self.last())
        while coming:
            version = coming.pop()
            if version not in seen and version not in self.plates():
                seen.add(version)
                coming.extend(self.rows[version])
        return tuple(sorted(seen))

    def maker(self, tag):
        def make(worths):
            self.calls.append((tag, worths))
            return made(tag, worths)
        return make

    def do(self, kind):
        cell, reads = self.table.kinds[kind]
        deed = len(self.kinds)
        self.rows.append([self.last()[read] for read in reads])
        self.worths[deed] = made(deed, [self.worths[version] for version in self.rows[deed]])
        self.kinds.append(kind)

    def lay(self, cell):
        self.sets[self.side][cell] = self.last()[cell]

    def cut(self):
        first = min(self.needed(), default=len(self.kinds))
        many, self.first = first - self.first, first
        self.ahead = self.last_ahead_of(first)
        return many

    def go_on(self):
        cell = self.order[self.many_swept]
        self.sets[1 - self.side][cell] = self.last()[cell]
        self.many_swept += 1
        return cell

    def is_swept(self):
        return self.order is not None and self.many_swept == self.table.cells

    def turn_over(self):
        self.side, self.order = 1 - self.side, None

    def content(self):
        """What should lie on the disk, but for the makers."""
        told = {("plate", side, cell): (version, self.worths[version])
                for side, plates in enumerate(self.sets) for cell, version in plates.items()}
        told |= {("deed", deed): kind for deed, kind in enumerate(self.kinds)}
        return told | {("set",): self.side, ("kept",): (self.first, self.ahead)}


def bare(content):
    """The content of a disk with the kinds of deeds alone."""
    return {cell: thing[0] if cell[0] == "deed" else thing for cell, thing in content.items()}


class Led:
    """A press and a disk that are led beside their Plain, each answer being looked at."""

    def __init__(self, test, table, power=None):
        self.test, self.table = test, table
        self.worths = tuple(range(100, 100 + table.cells))
        self.plain = Plain(table, self.worths)
        self.disk = Disk()
        self.disk.power(power)
        self.press = None

    def begin(self):
        self.press = begun(self.disk, self.table, self.worths)
        self.test.assertIs(type(self.press), Press)
        self.test.assertEqual(self.press.redone(), ())

    def look(self):
        test, plain, press = self.test, self.plain, self.press
        cells = range(self.table.cells)
        test.assertEqual([press.value(cell) for cell in cells], [plain.worths[at] for at in plain.last()])
        test.assertEqual(press.plates(), plain.plates())
        test.assertEqual([press.plate(cell) for cell in cells], [plain.worths[at] for at in plain.plates()])
        test.assertEqual(press.kept(), (plain.first, tuple(plain.kinds[plain.first:])))
        test.assertEqual([press.harmed(cell) for cell in cells], [plain.harmed(cell) for cell in cells])
        test.assertEqual(bare(self.disk.content()), plain.content())

    def reopen(self):
        """Open the press that lies on the disk; a sweep is gone then."""
        self.plain.calls.clear()
        self.press = Press(self.disk, self.table)
        plain, needed = self.plain, self.plain.needed()
        self.test.assertEqual(self.press.redone(), needed)
        self.test.assertEqual(plain.calls, [(deed, tuple(plain.worths[version] for version in plain.rows[deed]))
                                            for deed in needed])
        plain.order = None
        self.look()

    def act(self, action):
        """Do an action, which may raise Stopped; everything else is looked at."""
        getattr(self, "act_" + action[0])(*action[1:])

    def refused(self, error, action, *arguments):
        ahead = self.disk.written()
        told = raised(action, *arguments)
        self.test.assertIs(type(told), error)
        self.test.assertEqual(self.disk.written(), ahead)
        return told

    def act_do(self, kind):
        self.plain.calls.clear()
        reads = self.table.kinds[kind][1]
        seen = (len(self.plain.kinds), tuple(self.plain.worths[self.plain.last()[read]] for read in reads))
        if len(self.plain.kinds) - self.plain.first >= 400:
            self.refused(TooMany, self.press.do, kind, self.plain.maker(0))
            self.test.assertEqual(self.plain.calls, [])
            return
        try:
            self.test.assertIsNone(self.press.do(kind, self.plain.maker(len(self.plain.kinds))))
        finally:
            self.test.assertEqual(self.plain.calls, [seen])
        self.plain.do(kind)

    def act_lay(self, cell):
        cells = self.plain.harmed(cell)
        if cells:
            self.test.assertEqual(self.refused(Harms, self.press.lay, cell).cells, cells)
        else:
            ahead = self.disk.written()
            self.test.assertIsNone(self.press.lay(cell))
            self.test.assertEqual(self.disk.written(), ahead + 1)
            self.plain.lay(cell)

    def can_lay_all(self):
        plain = self.plain
        seen, coming = set(), [plain.plates()]
        while coming:
            plates = coming.pop()
            if plates not in seen and plain.lost(plates) == ():
                seen.add(plates)
                coming += [plates[:cell] + (last,) + plates[cell + 1:] for cell, last in enumerate(plain.last())]
        return plain.last() in seen

    def act_lay_all(self):
        if not self.can_lay_all():
            self.refused(Stuck, self.press.lay_all)
            return
        left = [cell for cell, version in enumerate(self.plain.plates()) if version != self.plain.last()[cell]]
        written = self.disk.written()
        try:
            order = self.press.lay_all()
        except Stopped:
            self.catch_up(left, self.disk.written() - written)
            raise
        self.test.assertIs(type(order), tuple)
        self.test.assertEqual(sorted(order), left)
        self.test.assertEqual(self.disk.written(), written + len(left))
        for cell in order:
            self.test.assertEqual(self.plain.harmed(cell), ())
            self.plain.lay(cell)

    def catch_up(self, left, many):
        """Lay in plain what was laid ahead of the power's failing, in an order in which none harms."""
        cells = [cell for cell in left if self.press.plates()[cell] != self.plain.plates()[cell]]
        self.test.assertEqual(len(cells), many)
        for order in permutations(cells):
            plates = self.plain.plates()
            harms = False
            for cell in order:
                plates = plates[:cell] + (self.plain.last()[cell],) + plates[cell + 1:]
                harms = harms or self.plain.lost(plates) != ()
            if not harms:
                break
        else:
            self.test.fail("each order harms")
        for cell in cells:
            self.plain.lay(cell)

    def act_cut(self):
        written = self.disk.written()
        many = self.press.cut()
        self.test.assertTrue(is_number(many))
        self.test.assertEqual(many, self.plain.cut())
        self.test.assertEqual(self.disk.written(), written + (many > 0))

    def act_sweep(self, order):
        self.test.assertIsNone(self.press.sweep(order))
        self.plain.order, self.plain.many_swept = order, 0

    def act_go_on(self):
        if self.plain.order is None or self.plain.is_swept():
            self.refused(NoSweep, self.press.go_on)
        else:
            cell = self.press.go_on()
            self.test.assertEqual(cell, self.plain.go_on())

    def act_turn_over(self):
        if not self.plain.is_swept():
            self.refused(NoSweep, self.press.turn_over)
        elif self.plain.lost(tuple(self.plain.sets[1 - self.plain.side][cell] for cell in range(self.table.cells))):
            self.refused(NotSafe, self.press.turn_over)
        else:
            self.test.assertIsNone(self.press.turn_over())
            self.plain.turn_over()


def some_order(dice, cells):
    orders = list(permutations(range(cells)))
    return orders[dice.roll(len(orders))]


def some_action(dice, table):
    word = ("do", "do", "do", "do", "lay", "lay", "lay_all", "cut", "sweep", "go_on", "go_on", "go_on", "go_on",
            "turn_over")[dice.roll(14)]
    if word == "do":
        return word, dice.roll(len(table.kinds))
    if word == "lay":
        return word, dice.roll(table.cells)
    if word == "sweep":
        return word, some_order(dice, table.cells)
    return (word,)


class LongRowTests(unittest.TestCase):
    def test_long_rows_of_drawn_actions(self):
        dice = Dice(201)
        for at in range(40):
            table = (T, F, ring(3), row((0, 1, 2)))[at] if at < 4 else some_table(dice, 1 + dice.roll(4), 7)
            led = Led(self, table)
            led.begin()
            for step in range(70):
                led.act(some_action(dice, table))
                led.look()
                if step % 9 == 8:
                    led.reopen()

    def test_the_power_fails_at_each_write(self):
        dice = Dice(202)
        for at in range(8):
            table = (T, F)[at] if at < 2 else some_table(dice, 2 + dice.roll(2), 6)
            actions = [some_action(dice, table) for _ in range(35)]
            whole = Led(self, table)
            whole.begin()
            for action in actions:
                whole.act(action)
            for power in range(whole.disk.written()):
                self.fails_once(table, actions, power)

    def fails_once(self, table, actions, power):
        """The power fails behind so many writes; the elder press goes on with power again, or a new one."""
        led = Led(self, table, power)
        if power < table.cells + 2:
            self.assertIs(type(raised(led.begin)), Stopped)
            self.assertEqual(led.disk.written(), power)
            led.disk.power(None)
        led.begin()
        at, failed = 0, power < table.cells + 2
        while at < len(actions):
            try:
                led.act(actions[at])
                at += 1
            except Stopped:
                self.assertFalse(failed)
                self.assertEqual(led.disk.written(), power)
                failed = True
                led.look()
                led.disk.power(None)
                if power % 2:
                    led.reopen()
        self.assertTrue(failed)
        led.look()
        led.reopen()

    def test_the_power_fails_again_and_again(self):
        dice = Dice(203)
        for _ in range(15):
            table = some_table(dice, 1 + dice.roll(3), 6)
            led = Led(self, table)
            led.begin()
            for _ in range(60):
                led.disk.power(dice.roll(4))
                try:
                    led.act(some_action(dice, table))
                    led.act(some_action(dice, table))
                except Stopped:
                    led.look()
                    if dice.roll(2):
                        led.disk.power(None)
                        led.reopen()
                led.look()

    def test_400_deeds_and_more(self):
        led = Led(self, table_of(2, [(0, (0, 1)), (1, (1,))]))
        led.begin()
        for at in range(410):
            led.act_do(at % 2)
        self.assertEqual(len(led.press.kept()[1]), 400)
        led.reopen()
        self.assertEqual(len(led.press.redone()), 400)
        led.act_cut()
        self.assertIs(type(raised(led.press.do, 0, len)), TooMany)
        led.act_lay_all()
        led.act_cut()
        self.assertEqual(led.press.kept(), (400, ()))
        for at in range(5):
            led.act_do(at % 2)
        led.reopen()
        self.assertEqual(led.press.kept(), (400, (0, 1, 0, 1, 0)))
        self.assertEqual(led.press.redone(), (400, 401, 402, 403, 404))


class SweepTests(unittest.TestCase):
    def right_order(self, table):
        """An order with r ahead of w for each tie, or None."""
        for order in permutations(range(table.cells)):
            if all(order.index(r) < order.index(w) for r, w in ties_by_hand(table)):
                return order
        return None

    def test_right_orders_can_always_be_turned_over(self):
        dice = Dice(204)
        many = 0
        while many < 40:
            table = some_table(dice, 2 + dice.roll(3), 6)
            order = self.right_order(table)
            if order is None or not ties_by_hand(table):
                continue
            many += 1
            led = Led(self, table)
            led.begin()
            for _ in range(3):
                led.act_sweep(order)
                for _ in range(table.cells):
                    for _ in range(dice.roll(5)):
                        led.act((("do", dice.roll(len(table.kinds))), ("lay", dice.roll(table.cells)))[dice.roll(2)])
                    led.act_go_on()
                led.act_do(dice.roll(len(table.kinds)))
                self.assertIsNone(raised(led.press.turn_over))
                led.plain.turn_over()
                led.look()
                led.reopen()
                led.act_cut()

    def test_wrong_orders_may_not_be_safe(self):
        table = table_of(2, [(0, ()), (1, (0,))])
        led = Led(self, table)
        led.begin()
        led.act_sweep((1, 0))
        led.act_go_on()
        for kind in (1, 0):
            led.act_do(kind)
        led.act_go_on()
        self.assertIs(type(raised(led.press.turn_over)), NotSafe)
        led.look()
        self.assertIs(type(raised(led.press.go_on)), NoSweep)
        led.act_do(1)
        led.act_turn_over()
        self.assertEqual((led.press.plates(), led.disk.content()[("set",)]), ((1, -2), 1))
        led.look()
        led.reopen()

    def test_a_cut_meanwhile(self):
        led = Led(self, Table(1, ((0, (0,)),)))
        led.begin()
        led.act_sweep((0,))
        led.act_go_on()
        led.act_do(0)
        led.act_lay(0)
        led.act_cut()
        self.assertIs(type(raised(led.press.turn_over)), NotSafe)
        led.act_sweep((0,))
        led.act_go_on()
        led.act_turn_over()
        led.look()

    def test_a_sweep_is_begun_anew(self):
        led = Led(self, T)
        led.begin()
        led.act_sweep((0, 1))
        led.act_go_on()
        led.act_go_on()
        led.act_go_on()
        led.act_sweep((1, 0))
        led.act_turn_over()
        self.assertIs(type(raised(led.press.turn_over)), NoSweep)
        self.assertEqual([led.press.go_on(), led.press.go_on()], [1, 0])
        self.assertIs(type(raised(led.press.sweep, (0, 0))), NoOrder)
        self.assertIsNone(led.press.turn_over())
        self.assertIs(type(raised(led.press.turn_over)), NoSweep)
        self.assertIs(type(raised(led.press.go_on)), NoSweep)

    def test_no_sweep(self):
        led = Led(self, T)
        led.begin()
        for action in (led.press.go_on, led.press.turn_over):
            led.refused(NoSweep, action)
        led.act_sweep((0, 1))
        led.refused(NoSweep, led.press.turn_over)
        led.act_go_on()
        led.refused(NoSweep, led.press.turn_over)
        led.reopen()
        for action in (led.press.go_on, led.press.turn_over):
            led.refused(NoSweep, action)

    def test_no_order(self):
        led = Led(self, T)
        led.begin()
        led.act_sweep((1, 0))
        led.act_go_on()
        for thing in things():
            told = raised(led.press.sweep, thing)
            if thing not in ((0, 1), (1, 0)) or not all(map(is_number, thing)):
                self.assertIs(type(told), NoOrder)
            else:
                self.assertIsNone(told)
                led.act_sweep((1, 0))
                led.disk.power(None)
                led.act_go_on()
        self.assertEqual(led.press.go_on(), 0)


class BeginTests(unittest.TestCase):
    def test_what_lies_on_the_disk(self):
        disk = Disk()
        begun(disk, T, ("a", "b"))
        content = {("plate", 0, 0): (-1, "a"), ("plate", 0, 1): (-2, "b"), ("kept",): (0, (-1, -2)), ("set",): 0}
        self.assertEqual(disk.content(), content)
        self.assertEqual(list(disk.content()), list(content))
        self.assertEqual(disk.written(), 4)

    def test_in_the_order_in_which_it_is_written(self):
        table = ring(3)
        order = [("plate", 0, 0), ("plate", 0, 1), ("plate", 0, 2), ("kept",), ("set",)]
        for power in range(5):
            disk = Disk()
            disk.power(power)
            self.assertIs(type(raised(begun, disk, table, (7, 8, 9))), Stopped)
            self.assertEqual(list(disk.content()), order[:power])
            self.assertIs(type(raised(Press, disk, table)), NoPress)
            disk.power(power)
            if power < 3:
                self.assertIs(type(raised(begun, disk, table, (7, 8, 9))), Stopped)
            disk.power(None)
            press = begun(disk, table, (4, 5, 6))
            self.assertEqual([press.value(cell) for cell in range(3)], [4, 5, 6])
            self.assertEqual(sorted(disk.content()), sorted(order))

    def test_no_begins(self):
        disk = Disk()
        wrong = [(), (0,), (0, 1, 2), [0, 1], None, "ab", {0: 0, 1: 1}, range(2), b"ab"]
        for thing in wrong + [thing for thing in things() if type(thing) is not tuple or len(thing) != 2]:
            self.assertIs(type(raised(begun, disk, T, thing)), NoBegins)
        self.assertEqual((disk.content(), disk.written()), ({}, 0))

    def test_no_begins_ahead_of_no_press_ahead_of_stopped(self):
        disk = Disk()
        disk.write("a", 0)
        disk.power(0)
        self.assertIs(type(raised(begun, disk, T, [0, 1])), NoBegins)
        self.assertIs(type(raised(begun, disk, T, (0, 1))), NoPress)
        self.assertIs(type(raised(begun, Disk(), T, (0, 1))), type(None))
        empty = Disk()
        empty.power(0)
        self.assertIs(type(raised(begun, empty, T, (0,))), NoBegins)
        self.assertIs(type(raised(begun, empty, T, (0, 1))), Stopped)

    def test_no_press_to_begin(self):
        places = [("set",), ("deed", 0), ("plate", 1, 0), ("plate", 0, 2), ("plate", 0, -1), "a", 0, (), ("kept", 0),
                  ("plate", 0), "set", None, (("set",),)]
        for place in places:
            disk = Disk()
            disk.write(place, 0)
            self.assertIs(type(raised(begun, disk, T, (0, 1))), NoPress)
            self.assertEqual(disk.content(), {place: 0})
        for place in [("plate", 0, 0), ("plate", 0, 1), ("kept",)]:
            disk = Disk()
            disk.write(place, "what lay there")
            self.assertEqual(begun(disk, T, (0, 1)).value(1), 1)
        disk = Disk()
        begun(disk, T, (0, 1))
        self.assertIs(type(raised(begun, disk, T, (0, 1))), NoPress)

    def test_no_press_to_open(self):
        for places in ([], [("kept",)], [("plate", 0, 0), ("plate", 0, 1), ("kept",)], ["set"]):
            disk = Disk()
            for place in places:
                disk.write(place, (0, (-1, -2)))
            self.assertIs(type(raised(Press, disk, T)), NoPress)


class MethodTests(unittest.TestCase):
    def setUp(self):
        self.disk = Disk()
        self.press = begun(self.disk, T, (10, 20))

    def test_step_by_step(self):
        press = self.press
        self.assertIsNone(press.do(0, lambda worths: worths[0] + 1))
        self.assertIsNone(press.do(1, lambda worths: worths[0] * 2))
        self.assertEqual((press.value(0), press.value(1), press.plate(0), press.plate(1)), (21, 42, 10, 20))
        self.assertEqual((press.plates(), press.kept(), press.redone()), ((-1, -2), (0, (0, 1)), ()))
        self.assertEqual((press.harmed(0), press.harmed(1)), ((), (0,)))
        self.assertEqual(raised(press.lay, 1).cells, (0,))
        self.assertEqual(press.cut(), 0)
        self.assertIsNone(press.lay(0))
        self.assertEqual((press.plates(), press.plate(0), press.cut()), ((0, -2), 21, 1))
        self.assertEqual(press.lay_all(), (1,))
        self.assertEqual((press.lay_all(), press.cut(), press.kept()), ((), 1, (2, ())))
        self.assertEqual(press.plates(), (0, 1))
        self.assertEqual(self.disk.content()[("kept",)], (2, (0, 1)))
        self.assertIn(("deed", 0), self.disk.content())

    def test_do_calls_its_maker_once(self):
        calls = []
        self.press.do(0, lambda worths: calls.append(worths) or 5)
        self.assertEqual(calls, [(20,)])
        self.assertIs(type(calls[0]), tuple)
        table = Table(3, ((0, (0, 1, 2)), (1, ())))
        press = begun(Disk(), table, (7, 8, 9))
        press.do(1, lambda worths: calls.append(worths) or 6)
        press.do(0, lambda worths: calls.append(worths) or 5)
        self.assertEqual(calls[1:], [(), (7, 6, 9)])

    def test_no_kind_ahead_of_too_many(self):
        for thing in things():
            if not is_number(thing) or thing not in (0, 1):
                self.assertIs(type(raised(self.press.do, thing, len)), NoKind)
        for _ in range(400):
            self.press.do(0, sum)
        written = self.disk.written()
        self.assertEqual(raised(self.press.do, 1, lambda worths: self.fail()).most, 400)
        self.assertIs(type(raised(self.press.do, 2, sum)), NoKind)
        self.assertIs(type(raised(self.press.do, True, sum)), NoKind)
        self.disk.power(0)
        self.assertIs(type(raised(self.press.do, 1, sum)), TooMany)
        self.assertEqual((self.disk.written(), self.press.kept()), (written, (0, (0,) * 400)))

    def test_no_cell(self):
        for thing in things():
            if not is_number(thing) or thing not in (0, 1):
                for action in (self.press.value, self.press.plate, self.press.harmed, self.press.lay):
                    self.assertIs(type(raised(action, thing)), NoCell)
        self.assertEqual(self.disk.written(), 4)

    def test_errors_of_makers_go_on(self):
        ahead = self.disk.content()

        def wrong(worths):
            raise Own(worths)

        for _ in range(2):
            with self.assertRaises(Own) as caught:
                self.press.do(0, wrong)
            self.assertEqual(caught.exception.args, ((20,),))
        self.assertEqual((self.disk.content(), self.press.kept(), self.press.value(0)), (ahead, (0, ()), 10))
        self.press.do(0, sum)
        self.assertEqual((self.press.value(0), self.press.kept()), (20, (0, (0,))))

    def test_errors_of_makers_go_on_when_a_press_is_opened(self):
        fails = []

        def maker(worths):
            if fails:
                raise Own()
            return 5

        self.press.do(0, maker)
        fails.append(True)
        ahead = self.disk.content()
        with self.assertRaises(Own):
            Press(self.disk, T)
        self.assertEqual(self.disk.content(), ahead)
        self.assertEqual(self.press.value(0), 5)

    def test_lay_writes_also_where_the_plate_holds_the_present(self):
        for many in range(3):
            self.press.lay(0)
            self.assertEqual((self.disk.written(), self.press.plates()), (5 + many, (-1, -2)))
        self.disk.power(0)
        self.assertIs(type(raised(self.press.lay, 0)), Stopped)
        self.assertEqual(self.press.lay_all(), ())

    def test_harms_ahead_of_stopped(self):
        self.press.do(0, sum)
        self.press.do(1, sum)
        self.disk.power(0)
        self.assertIs(type(raised(self.press.lay, 1)), Harms)
        self.assertIs(type(raised(self.press.lay, 0)), Stopped)
        self.assertIs(type(raised(self.press.lay, 2)), NoCell)

    def test_harms_with_the_lot(self):
        table = Table(3, ((0, (2,)), (1, (2,)), (2, ())))
        press = begun(Disk(), table, (0, 0, 0))
        for kind in range(3):
            press.do(kind, len)
        error = raised(press.lay, 2)
        self.assertEqual((type(error), error.cells, press.harmed(2)), (Harms, (0, 1), (0, 1)))

    def test_stuck_ahead_of_all_writes(self):
        disk = Disk()
        press = begun(disk, F, (1, 2))
        for kind in (0, 1, 0):
            press.do(kind, sum)
        self.assertFalse(can_lay_out(F, (0, 1, 0), (-1, -2)))
        ahead = disk.content()
        disk.power(0)
        self.assertIs(type(raised(press.lay_all)), Stuck)
        disk.power(None)
        self.assertIs(type(raised(press.lay_all)), Stuck)
        self.assertEqual((disk.content(), press.plates()), (ahead, (-1, -2)))

    def test_lay_all_stops_between(self):
        table = table_of(3, [(0, (1,)), (1, (2,)), (2, ())])
        for power in range(3):
            disk = Disk()
            press = begun(disk, table, (1, 2, 3))
            for kind in range(3):
                press.do(kind, sum)
            disk.power(power)
            self.assertIs(type(raised(press.lay_all)), Stopped)
            self.assertEqual(press.plates(), (0, 1, 2)[:power] + (-1, -2, -3)[power:])
            self.assertEqual(Press(disk, table).plates(), press.plates())
            disk.power(None)
            self.assertEqual(press.lay_all(), (0, 1, 2)[power:])

    def test_cut_deeds_mean_nothing(self):
        self.press.do(0, sum)
        self.press.lay(0)
        self.assertEqual(self.press.cut(), 1)
        self.disk.write(("deed", 0), ("nothing", "at all"))
        opened = Press(self.disk, T)
        self.assertEqual((opened.kept(), opened.redone(), opened.value(0)), ((1, ()), (), 20))
        opened.do(0, sum)
        self.assertEqual(opened.kept(), (1, (0,)))
        self.assertEqual(Press(self.disk, T).redone(), (1,))

    def test_cut_stops(self):
        self.press.do(0, sum)
        self.disk.power(0)
        self.assertEqual(self.press.cut(), 0)
        self.disk.power(1)
        self.press.lay(0)
        self.assertIs(type(raised(self.press.cut)), Stopped)
        self.assertEqual(self.press.kept(), (0, (0,)))
        self.assertEqual(self.disk.content()[("kept",)], (0, (-1, -2)))
        self.disk.power(None)
        self.assertEqual(self.press.cut(), 1)

    def test_redone_tells_of_the_opening(self):
        for kind in (0, 1, 0):
            self.press.do(kind, sum)
        opened = Press(self.disk, T)
        self.assertEqual(opened.redone(), (0, 1, 2))
        opened.lay_all()
        opened.cut()
        opened.do(0, sum)
        self.assertEqual(opened.redone(), (0, 1, 2))
        self.assertEqual(self.press.redone(), ())

    def test_only_what_is_needed_is_done_again(self):
        calls = []

        def maker(tag):
            return lambda worths: calls.append(tag) or tag

        for tag, kind in enumerate((0, 0, 1, 1, 0)):
            self.press.do(kind, maker(tag))
        del calls[:]
        opened = Press(self.disk, T)
        self.assertEqual((calls, opened.redone()), ([1, 3, 4], (1, 3, 4)))
        self.assertEqual([opened.value(0), opened.value(1)], [4, 3])


class ValueTests(unittest.TestCase):
    def test_values_of_any_kind(self):
        for thing in [None, [], [1, [2]], {}, {"a": [1]}, (), True, False, F, "a", b"a", 10 ** 60, ([{}],), len]:
            disk = Disk()
            press = begun(disk, T, (thing, [thing]))
            self.assertEqual((press.value(0), press.value(1)), (thing, [thing]))
            self.assertIs(type(press.value(0)), type(thing))
            press.do(0, lambda worths, thing=thing: {"read": worths, "own": thing})
            self.assertEqual(press.value(0), {"read": ([thing],), "own": thing})
            opened = Press(disk, T)
            self.assertEqual(opened.value(0), {"read": ([thing],), "own": thing})
            opened.lay(0)
            opened.sweep((0, 1))
            opened.go_on()
            self.assertEqual(disk.content()[("plate", 1, 0)], (0, {"read": ([thing],), "own": thing}))
            self.assertEqual(Press(disk, T).plate(0), {"read": ([thing],), "own": thing})

    def test_lists_and_dicts_that_are_returned_are_new(self):
        disk = Disk()
        begins_of = ([[1]], {"a": [1]})
        press = begun(disk, T, begins_of)
        press.do(1, lambda worths: worths[0] + [({"b": [2]},)])
        begins_of[0][0].append(9)
        begins_of[1]["a"].append(9)
        for _ in range(2):
            for press in (press, Press(disk, T)):
                press.value(0)[0].append(9)
                press.value(1)[1][0]["b"].append(9)
                press.value(1).clear()
                press.plate(1)["a"].append(9)
                press.plate(0).append(9)
                self.assertEqual((press.value(0), press.value(1)), ([[1]], [[1], ({"b": [2]},)]))
                self.assertEqual((press.plate(0), press.plate(1)), ([[1]], {"a": [1]}))
        disk.content()[("plate", 0, 0)][1][0].append(9)
        self.assertEqual(Press(disk, T).plate(0), [[1]])

    def test_values_that_grow_deep(self):
        disk = Disk()
        press = begun(disk, Table(1, ((0, (0,)),)), ((),))
        for _ in range(5):
            for _ in range(400):
                press.do(0, lambda worths: worths)
            press = Press(disk, Table(1, ((0, (0,)),)))
            press.lay_all()
            self.assertEqual(press.cut(), 400)
        worth, deep = press.value(0), 0
        while worth != ():
            worth, deep = worth[0], deep + 1
        self.assertEqual(deep, 2000)

    def test_presses_are_equal_to_nothing_else(self):
        press = begun(Disk(), T, (0, 0))
        for thing in [*things(), begun(Disk(), T, (0, 0)), T]:
            self.assertFalse(press == thing)


if __name__ == "__main__":
    unittest.main()
