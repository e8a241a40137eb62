"""[9.1], and [0.3], [0.4] for laidplates.disks."""

import unittest

from helping import F, is_number, nested, raised, things
from laidplates.disks import Disk
from laidplates.errors import NoNumber, Stopped


class DiskTests(unittest.TestCase):
    def test_content_is_what_was_written(self):
        disk = Disk()
        self.assertEqual(disk.content(), {})
        disk.write("a", 1)
        disk.write(("plate", 0, 1), (-2, [3]))
        self.assertEqual(disk.content(), {"a": 1, ("plate", 0, 1): (-2, [3])})
        self.assertIsNone(disk.write("a", None))
        self.assertEqual(disk.content(), {"a": None, ("plate", 0, 1): (-2, [3])})
        self.assertIs(type(disk.content()), dict)

    def test_content_is_new_with_lists_and_dicts_inside(self):
        disk = Disk()
        disk.write(0, [[1], {"a": [2]}, ({"b": 3}, [4])])
        disk.write(1, (0, [5]))
        told = disk.content()
        told[0][0].append(9)
        told[0][1]["a"].append(9)
        told[0][1]["c"] = 9
        told[0][2][0]["b"] = 9
        told[0][2][1].clear()
        told[0].append(9)
        told[1][1].append(9)
        told[2] = 9
        self.assertEqual(disk.content(), {0: [[1], {"a": [2]}, ({"b": 3}, [4])], 1: (0, [5])})

    def test_writes_keep_copies(self):
        disk = Disk()
        inner, row = [1], {"a": 1}
        thing = [inner, (row, inner)]
        disk.write(0, thing)
        inner.append(2)
        row["b"] = 2
        thing.append(3)
        self.assertEqual(disk.content(), {0: [[1], ({"a": 1}, [1])]})

    def test_things_stay_what_they_are(self):
        for thing in things():
            disk = Disk()
            disk.write(0, thing)
            told = disk.content()[0]
            self.assertIs(type(told), type(thing))
            if type(thing) not in (list, dict, tuple):
                self.assertIs(told, thing)
            elif len(thing) < 100:
                self.assertEqual(repr(told), repr(thing))
            else:
                self.assertEqual(told, thing)

    def test_classes_derived_from_lists_stay(self):
        class Row(list):
            """A list of another class."""

        for thing in (Row([1]), F, True, 0):
            disk = Disk()
            disk.write(0, (thing,))
            self.assertIs(disk.content()[0][0], thing)

    def test_deep_values(self):
        for wrap in (lambda inner: (inner,), lambda inner: [inner], lambda inner: {0: inner}):
            disk = Disk()
            disk.write(0, nested(wrap, 7, 5000))
            told = disk.content()[0]
            for _ in range(5000):
                told = told[0]
            self.assertEqual(told, 7)

    def test_power(self):
        disk = Disk()
        self.assertIsNone(disk.power(2))
        disk.write(0, 0)
        disk.write(1, 1)
        for _ in range(3):
            self.assertIs(type(raised(disk.write, 0, 5)), Stopped)
            self.assertIs(type(raised(disk.write, 2, 5)), Stopped)
        self.assertEqual((disk.content(), disk.written()), ({0: 0, 1: 1}, 2))
        disk.power(1)
        disk.write(2, 2)
        self.assertIs(type(raised(disk.write, 3, 3)), Stopped)
        disk.power(None)
        for at in range(50):
            disk.write(at, -at)
        self.assertEqual((disk.content(), disk.written()), ({at: -at for at in range(50)}, 53))
        disk.power(0)
        self.assertIs(type(raised(disk.write, 0, 5)), Stopped)
        disk.power(10 ** 60 - 1)
        disk.write(0, 5)
        self.assertEqual((disk.content()[0], disk.written()), (5, 54))

    def test_power_is_counted_from_now_on(self):
        disk = Disk()
        disk.power(5)
        disk.write(0, 0)
        disk.power(1)
        disk.write(0, 1)
        self.assertIs(type(raised(disk.write, 0, 2)), Stopped)
        disk.power(3)
        disk.power(3)
        for at in range(3):
            disk.write(0, at)
        self.assertIs(type(raised(disk.write, 0, 9)), Stopped)
        self.assertEqual((disk.content(), disk.written()), ({0: 2}, 5))

    def test_no_number(self):
        for thing in things():
            disk = Disk()
            disk.power(1)
            if thing is None or is_number(thing) and thing >= 0:
                self.assertIsNone(disk.power(thing))
            else:
                self.assertIs(type(raised(disk.power, thing)), NoNumber)
                disk.write(0, 0)
                self.assertIs(type(raised(disk.write, 0, 1)), Stopped)

    def test_written_at_first(self):
        self.assertEqual(Disk().written(), 0)
        self.assertTrue(is_number(Disk().written()))

    def test_disks_are_apart_and_equal_to_nothing_else(self):
        one, other = Disk(), Disk()
        one.write(0, 0)
        one.power(0)
        self.assertEqual(other.content(), {})
        other.write(0, 1)
        for thing in [*things(), other]:
            self.assertFalse(one == thing)


if __name__ == "__main__":
    unittest.main()
