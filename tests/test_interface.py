"""The interface: each name in its module, with its arguments under their names and its defaults."""

import importlib
import inspect
import unittest

INTERFACE = {
    "signs": ("pair_of(sign)", "sign_of(figures)", "written(text)", "undone(text, free='')"),
    "addresses": ("is_address(thing)", "is_whole(address)"),
    "showing": ("show(address)",),
    "reading": ("read(text)",),
    "ways": ("gone(way)", "holder(way)"),
    "resolving": ("resolved(base, address)",),
    "relative": ("relative(base, goal)",),
    "plain": ("plain(address)", "plain_text(text)", "alike(one, other)"),
    "patterns": ("is_pattern(thing)", "read_pattern(text)", "show_pattern(pattern)"),
    "fitting": ("bound(pattern, way)", "filled(pattern, values)"),
    "worth": ("worth_more(one, other)",),
    "tables": ("lead(table, way)", "made(table, name, values)",
               "made_address(table, base, name, values, question=None, mark=None)"),
    "meeting": ("meeting(one, other)",),
    "within": ("beyond(one, other)",),
    "forwards": ("led_on(rules, way)", "trail(rules, way, most=60)"),
    "desk": ("Desk(text)",),
    "errors": ("NoAddress(at)", "NoValue(name)"),
}


class Interface(unittest.TestCase):
    def test_names_arguments_and_defaults(self):
        for module, rows in INTERFACE.items():
            for row in rows:
                name = row.partition("(")[0]
                thing = getattr(importlib.import_module("waymark." + module), name)
                self.assertEqual(name + str(inspect.signature(thing)), row)

    def test_what_a_desk_is_told(self):
        desk = importlib.import_module("waymark.desk").Desk("x:")
        self.assertEqual(str(inspect.signature(desk.say)), "(row)")

    def test_refusals_without_anything_handed_in(self):
        errors = importlib.import_module("waymark.errors")
        for name in ("WayError", "NoBase", "NoPattern", "NoName", "NoRow"):
            self.assertIsInstance(getattr(errors, name)(), errors.WayError)


if __name__ == "__main__":
    unittest.main()
