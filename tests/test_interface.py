"""The interface: each name, its arguments, and the file in which it is defined."""

import importlib
import inspect
import unittest

FUNCTIONS = {
    "tables": {
        "is_journal": ["table", "thing"], "is_plates": ["table", "journal", "thing"],
        "present": ["table", "journal"], "sources": ["table", "journal", "deed"], "fresh": ["table"],
    },
    "deriving": {
        "derived": ["table", "journal", "plates"], "redo": ["table", "journal", "plates"],
        "lost": ["table", "journal", "plates"], "is_safe": ["table", "journal", "thing"],
        "can_cut": ["table", "journal", "plates"],
    },
    "worlds": {
        "bits_of": ["table", "journal", "functions", "begin"], "parting": ["table", "journal", "plates"],
        "is_parting": ["table", "journal", "plates", "thing"],
    },
    "layings": {
        "harmed": ["table", "journal", "plates", "cell"], "lay_out": ["table", "journal", "plates"],
        "is_laying_out": ["table", "journal", "plates", "thing"], "count_layings": ["table", "journal", "plates"],
        "at_once": ["table", "journal", "plates"],
    },
    "bars": {"bar": ["table", "journal", "plates"], "is_bar": ["table", "journal", "plates", "thing"]},
    "webs": {"knots": ["table"], "sound": ["table"], "row_of": ["table", "knot"]},
    "sticking": {"never_sticks": ["table"], "is_sticking": ["table", "thing"], "sticking": ["table"]},
    "standings": {"shortest_sticking": ["table"], "count_sticking": ["table", "many"]},
    "runs": {
        "is_run": ["table", "thing"], "is_stuck_run": ["table", "thing"], "is_plain": ["table"],
        "never_stuck": ["table"], "behind": ["table", "run"], "stuck_run": ["table"],
    },
    "places": {
        "lay_out_kept": ["table", "journal", "lot"], "is_enough": ["table", "thing"], "fewest_places": ["table"],
        "sticking_kept": ["table", "lot"],
    },
    "spares": {"lay_out_spared": ["table", "journal", "plates"]},
    "sweeps": {
        "is_whole": ["table", "order", "thing"], "is_sweep_order": ["table", "thing"],
        "swept": ["table", "order", "weaving"], "sweep_order": ["table"], "spoiling": ["table", "order"],
    },
    "hands": {"led": ["table", "journal", "hand"], "judged_hand": ["table", "hand"]},
    "presses": {"begun": ["disk", "table", "begins"]},
    "texts": {
        "table_text": ["table"], "journal_text": ["table", "journal"], "run_text": ["table", "run"],
    },
    "reading": {"read_table": ["text"], "read_journal": ["table", "text"], "read_run": ["table", "text"]},
    "benches": {"replayed": ["table", "thing"]},
    "mendings": {
        "mendings": ["table"], "cheapest_mending": ["table", "prices"], "is_mending": ["table", "thing"],
        "most_ties": ["cells"], "most_ordered": ["cells"], "tied_table": ["cells"],
    },
    "classes": {
        "alike": ["table", "one", "other"], "telling": ["table", "one", "other"], "classes": ["table"],
        "first_of_classes": ["table"], "count_far": ["table", "many", "p"],
    },
    "desks": {"tale": ["lines"]},
}
CLASSES = {
    "tables": {"Table": {"__init__": ["self", "cells", "kinds"], "__eq__": ["self", "other"]}},
    "disks": {
        "Disk": {
            "__init__": ["self"], "content": ["self"], "write": ["self", "cell", "thing"],
            "power": ["self", "writes"], "written": ["self"],
        },
    },
    "presses": {
        "Press": {
            "__init__": ["self", "disk", "table"], "do": ["self", "kind", "maker"], "value": ["self", "cell"],
            "plate": ["self", "cell"], "kept": ["self"], "plates": ["self"], "redone": ["self"],
            "harmed": ["self", "cell"], "lay": ["self", "cell"], "lay_all": ["self"], "cut": ["self"],
            "sweep": ["self", "order"], "go_on": ["self"], "turn_over": ["self"],
        },
    },
    "benches": {
        "Bench": {
            "__init__": ["self", "table"], "now": ["self"], "knots": ["self"], "bad_knots": ["self"],
            "rows": ["self"], "verdict": ["self"], "add_kind": ["self", "kind"], "drop_kind": ["self", "kind"],
            "add_cell": ["self"], "drop_cell": ["self", "cell"], "joined": ["self", "kind"],
            "parted": ["self", "kind"], "undo": ["self"], "redo": ["self"], "many_done": ["self"],
            "mark": ["self", "name"], "marks": ["self"], "go_to": ["self", "name"], "copy": ["self"],
            "trying": ["self", "action"], "journal": ["self"],
        },
    },
    "desks": {"Desk": {"__init__": ["self"], "tell": ["self", "line"]}},
}


def arguments_of(action):
    return list(inspect.signature(action).parameters)


class InterfaceTests(unittest.TestCase):
    def test_functions(self):
        for file, names in FUNCTIONS.items():
            module = importlib.import_module("laidplates." + file)
            for name, arguments in names.items():
                action = getattr(module, name)
                self.assertEqual(action.__module__, module.__name__)
                self.assertEqual(arguments_of(action), arguments, name)

    def test_classes(self):
        for file, names in CLASSES.items():
            module = importlib.import_module("laidplates." + file)
            for name, methods in names.items():
                self.assertEqual(getattr(module, name).__module__, module.__name__)
                for method, arguments in methods.items():
                    self.assertEqual(arguments_of(vars(getattr(module, name))[method]), arguments, method)


if __name__ == "__main__":
    unittest.main()
