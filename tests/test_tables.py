"""Points [36] to [38], and what [2] and [3] ask of waymark.tables."""

import copy
import itertools
import random
import unittest

from samples import (FULL, MARK, QUESTION, SIGNS, WAY, Hostile, Telling, chance_address, chance_pattern,
                     chance_question, chance_table, chance_text, chance_values, chance_way, gaps_of, with_part)
from slow import slowly_bound, slowly_filled
from waymark.addresses import is_address
from waymark.errors import NoAddress, NoBase, NoName, NoPattern, NoRow, NoValue, WayError
from waymark.fitting import bound, filled
from waymark.patterns import read_pattern
from waymark.reading import read
from waymark.showing import show
from waymark.tables import lead, made, made_address
from waymark.worth import worth_more

OFFICE = (("home", "/"), ("one", "/a/{id:number}"), ("new", "/a/new"), ("word", "/a/{w:word}"), ("part", "/a/x{t}"),
          ("any", "/a/{v}"), ("files", "/a/{r:rest}"), ("all", "/{r:rest}"))


def table_of(*entries):
    return [(name, read_pattern(text)) for name, text in entries]


def way_of(text):
    return read(text)[WAY]


class Leading(Telling):
    def leads(self, entries, way, due):
        table = table_of(*entries)
        kept = copy.deepcopy(table)
        self.same(lead(table, way_of(way)), due, (entries, way))
        self.same(table, kept)

    def leads_in_any_order(self, entries, way, due):
        for shuffled in itertools.permutations(entries):
            self.leads(shuffled, way, due)

    def test_no_patterns(self):
        for way in ("/", "", "/a", "a/b/"):
            self.assertIsNone(lead([], way_of(way)))

    def test_one_pattern(self):
        self.leads((("n", "/a/{v}"),), "/a/b", ("n", [("v", "b")]))
        self.leads((("n", "/a/{v}"),), "/a/b/", None)
        self.leads((("n", "/a/{v}"),), "a/b", None)
        self.leads((("n", "/a/{v}"),), "/a/..", None)
        self.leads((("n", "/"),), "/", ("n", []))

    def test_the_one_that_is_worth_most(self):
        for way, name, values in (
                ("/", "home", []), ("/a/7", "one", [("id", 7)]), ("/a/new", "new", []),
                ("/a/newer", "word", [("w", "newer")]), ("/a/xyz", "part", [("t", "yz")]),
                ("/a/x", "word", [("w", "x")]), ("/a/07", "any", [("v", "07")]),
                ("/a/b/c", "files", [("r", ["b", "c"])]), ("/b/c", "all", [("r", ["b", "c"])]),
                ("/a", "all", [("r", ["a"])])):
            self.leads(OFFICE, way, (name, values))
            self.leads(OFFICE[::-1], way, (name, values))
        for way in ("/a/", "a", "", "/a/.", "/a/new/"):
            self.leads(OFFICE, way, None)

    def test_whatever_the_order(self):
        entries = (("a", "/{v:rest}"), ("b", "/{u}/{v}"), ("c", "/x/{v}"), ("d", "/x/y{v}"), ("e", "/x/{v}z"))
        self.leads_in_any_order(entries, "/x/yz", ("d", [("v", "z")]))
        self.leads_in_any_order(entries, "/x/az", ("e", [("v", "a")]))
        self.leads_in_any_order(entries, "/x/b", ("c", [("v", "b")]))
        self.leads_in_any_order(entries, "/y/b", ("b", [("u", "y"), ("v", "b")]))
        self.leads_in_any_order(entries, "/y", ("a", [("v", ["y"])]))

    def test_of_those_worth_as_much_the_first(self):
        self.leads((("b", "/{v}"), ("a", "/{w}")), "/x", ("b", [("v", "x")]))
        self.leads((("a", "/{w}"), ("b", "/{v}")), "/x", ("a", [("w", "x")]))
        self.leads((("z", "/{r:rest}"), ("b", "/y{v}"), ("a", "/x{v}"), ("d", "/x{w}"), ("c", "/x{u}")), "/xx",
                   ("a", [("v", "x")]))
        self.leads((("b", "/a/{v:word}"), ("a", "/a/{w:word}"), ("c", "/{v}/b")), "/a/b", ("b", [("v", "b")]))

    def test_sixteen_patterns(self):
        letters = "abcdefghijklmnop"
        entries = tuple((letter, "/" + letter + "/{v}") for letter in letters)
        for letter in letters:
            self.leads(entries, "/" + letter + "/x", (letter, [("v", "x")]))
            self.leads(entries[::-1], "/" + letter + "/x", (letter, [("v", "x")]))
        self.leads(entries, "/q/x", None)
        entries = tuple((letter, "/" + "{" + letter + "}") for letter in letters)
        self.leads(entries, "/x", ("a", [("a", "x")]))
        self.leads(entries[::-1], "/x", ("p", [("p", "x")]))

    def test_the_values_are_the_askers_own(self):
        table, way = table_of(("n", "/{v}/{r:rest}")), way_of("/a/b")
        first = lead(table, way)
        self.assertEqual([first.__class__, first[1].__class__], [tuple, list])
        first[1][1][1].append("z")
        first[1].append(("z", "z"))
        self.same(lead(table, way), ("n", [("v", "a"), ("r", ["b"])]))

    def test_a_table_changed_behind_the_call(self):
        table, way = table_of(("n", "/{v}")), way_of("/a")
        first = lead(table, way)
        table.clear()
        self.same(first, ("n", [("v", "a")]))
        self.assertIsNone(lead(table, way))

    def test_drawn_tables(self):
        chance = random.Random("tables")
        led = 0
        for turn in range(4000):
            table, way = chance_table(chance, 16, 2), chance_way(chance, chance.random() < 0.9, 2)
            due = None
            for name, pattern in table:
                values = slowly_bound(pattern, way)
                if values is not None and not any(slowly_bound(other, way) is not None and worth_more(other, pattern)
                                                  for unasked, other in table):
                    due = (name, values)
                    break
            led += due is not None
            self.same(lead(table, way), due, (table, way))
        self.assertGreater(led, 1000)


class Making(Telling):
    def test_the_pattern_of_the_name(self):
        table = table_of(*OFFICE)
        for name, values, way in (("home", [], "/"), ("new", [], "/a/new"), ("one", [("id", 7)], "/a/7"),
                                  ("word", [("w", "new")], "/a/new"), ("part", [("t", "y")], "/a/xy"),
                                  ("files", [("r", ["b", "c"])], "/a/b/c"), ("all", [("r", ["?"])], "/~3f")):
            self.same(made(table, name, values), way_of(way))

    def test_a_name_that_is_not_there(self):
        table = table_of(("n", "/{v}"), ("m", "/a"))
        for name in ("", "N", "nn", "v", " n", "n ", "nm", "none", "a" * 2000):
            for values in ([], [("v", "a")], [("v", "")], [("z", Hostile())]):
                self.refused(NoName, made, table, name, values)
                self.refused(NoName, made, [], name, values)

    def test_the_refusal_of_a_name(self):
        refusal = self.refused(NoName, made, [], "n", [])
        self.assertIsInstance(refusal, WayError)
        self.assertIsInstance(refusal, ValueError)
        for other in (NoAddress, NoBase, NoPattern, NoValue, NoRow):
            self.assertNotIsInstance(refusal, other)

    def test_values_refused(self):
        table = table_of(("n", "/{v}/{w:number}"), ("m", "/{w:number}"))
        for name, values, refused in (("n", [], "v"), ("n", [("v", "a")], "w"), ("n", [("v", "."), ("w", 1)], "v"),
                                      ("n", [("v", "a"), ("w", True)], "w"), ("m", [("v", "a"), ("w", 1)], "v"),
                                      ("m", [("w", 1), ("w", 1)], "w")):
            self.same(self.refused(NoValue, made, table, name, values).name, refused)

    def test_nothing_handed_in_is_changed(self):
        table, values = table_of(("n", "/{v}/{r:rest}")), [("r", ["a", "b"]), ("v", "c")]
        kept = copy.deepcopy((table, values))
        way = made(table, "n", values)
        self.same((table, values), kept)
        values[0][1].append("z")
        table.clear()
        self.same(way, way_of("/c/a/b"))

    def test_a_made_way_is_led_back(self):
        chance = random.Random("led back")
        same = other_ones = 0
        for turn in range(3000):
            table = chance_table(chance, 16, 2)
            for place, (name, pattern) in enumerate(table):
                values = chance_values(chance, pattern)
                way = made(table, name, chance.sample(values, len(values)))
                self.same(way, slowly_filled(pattern, values), (table, name))
                led_name, led_values = lead(table, way)
                led_place = [entry[0] for entry in table].index(led_name)
                led_pattern = table[led_place][1]
                if led_name == name:
                    same += 1
                    self.same(led_values, values, (table, name))
                else:
                    other_ones += 1
                    more, less = worth_more(led_pattern, pattern), worth_more(pattern, led_pattern)
                    self.assertTrue(more or (not less and led_place < place), (table, name))
                self.same(filled(led_pattern, led_values), way, (table, name))
        self.assertGreater(min(same, other_ones), 1000)


class MakingAddresses(Telling):
    def test_with_and_without_question_and_mark(self):
        table = table_of(("n", "/a/{v}"))
        for base, shown in (("x:", "x:"), ("x:/z?z#z", "x:"), ("x://h/z/", "x://h"), ("X://H:0?z", "X://H:0"),
                            ("x://~2f:1#", "x://~2f:1")):
            for question, asked in ((None, ""), ((), "?"), ((("q", None), ("r", "=")), "?q&r=~3d")):
                for mark, marked in ((None, ""), ("", "#"), ("m?", "#m~3f")):
                    due = shown + "/a/b" + asked + marked
                    told = made_address(table, read(base), "n", [("v", "b")], question, mark)
                    self.same(told, read(due))
                    self.same(made_address(table, read(base), "n", [("v", "b")], question=question, mark=mark), told)
                    self.assertEqual(show(told), due)
                    if mark is None:
                        self.same(made_address(table, read(base), "n", [("v", "b")], question), told)
                    if question is None:
                        self.same(made_address(table, read(base), "n", [("v", "b")], mark=mark), told)
            self.same(made_address(table, read(base), "n", [("v", "b")]), read(shown + "/a/b"))

    def test_arguments_by_their_names(self):
        told = made_address(table=table_of(("n", "/")), base=FULL, name="n", values=[], question=(), mark="")
        self.same(told, ("http", "a.b", 80, (True, (), True), (), ""))

    def test_a_base_without_a_scheme(self):
        table = table_of(("n", "/{v}"))
        for base in ("", "/", "a", "//h", "//h:1/a?q#m", "?q", "#m"):
            for name, values in (("n", [("v", "a")]), ("n", []), ("m", [("v", "a")]), ("m", []), ("", [])):
                self.refused(NoBase, made_address, table, read(base), name, values)
                self.refused(NoBase, made_address, [], read(base), name, values, (), "")

    def test_names_ahead_of_values(self):
        table = table_of(("n", "/{v}"))
        for values in ([], [("v", "")], [("v", "a")]):
            self.refused(NoName, made_address, table, FULL, "m", values)
        self.same(self.refused(NoValue, made_address, table, FULL, "n", []).name, "v")
        self.same(self.refused(NoValue, made_address, table, FULL, "n", [("v", "a"), ("w", "a")]).name, "w")

    def test_texts_that_look_like_other_parts(self):
        table = table_of(("gap", "/{v}/end"), ("part", "/x{v}y"), ("rest", "/{v:rest}/"))
        for text in ("/", "//", "a/b", "?", "a?b=c", "#", "a#b", ":", "x:", "x://h", "~", "~2f", "~7e", "&", "=",
                     "a=b&c", " ", "  a ", "{", "}", "{v}", "{v:rest}", "...", "./..", "../", "..a", "a" * 100, SIGNS):
            for base in ("x:", "x://h:1/a/b?q#m"):
                for name, values in (("gap", [("v", text)]), ("part", [("v", text)]), ("rest", [("v", [text, text])])):
                    self.stays(table, read(base), name, values, (("q", text), (text, None)), text)
                    self.stays(table, read(base), name, values, None, None)

    def stays(self, table, base, name, values, question, mark):
        """Shown and read it is the same address, and nothing but the way is other than it was told."""
        kept = copy.deepcopy((table, base, values))
        address = made_address(table, base, name, values, question, mark)
        self.assertTrue(is_address(address), address)
        self.same(address[:WAY], base[:WAY])
        self.same(address[WAY], slowly_filled(dict(table)[name], values))
        self.same(address[QUESTION], question)
        self.same(address[MARK], mark)
        self.same(read(show(address)), address)
        self.same(bound(dict(table)[name], read(show(address))[WAY]), slowly_bound(dict(table)[name], address[WAY]))
        self.same((table, base, values), kept)

    def test_a_value_changes_its_own_part_alone(self):
        table = table_of(("n", "/a/{u}/x{v}y/{r:rest}"))
        pattern = table[0][1]
        plainly = made_address(table, FULL, "n", [("u", "u"), ("v", "v"), ("r", ["r", "s"])], (), "m")
        for text in ("/", "?q", "#m", "~2e", "&=", ":80", "{u}", " ", "a/../b"):
            for name, value, place in (("u", text, 1), ("v", text, 2), ("r", [text, "s"], 3), ("r", ["r", text], 4)):
                values = [("u", "u"), ("v", "v"), ("r", ["r", "s"])]
                values = [pair for pair in values if pair[0] != name] + [(name, value)]
                told = read(show(made_address(table, FULL, "n", values, (), "m")))
                self.same(with_part(told, WAY, plainly[WAY]), plainly)
                unlike = [at for at, step in enumerate(told[WAY][1]) if step != plainly[WAY][1][at]]
                self.assertEqual(unlike, [place], (name, value))
                self.assertEqual(len(told[WAY][1]), len(plainly[WAY][1]))
                self.same(bound(pattern, told[WAY]), sorted(values, key=lambda pair: "uvr".index(pair[0])))

    def test_drawn_addresses(self):
        chance = random.Random("made")
        for turn in range(3000):
            table = [("n", chance_pattern(chance)), ("m", chance_pattern(chance))]
            name = chance.choice("nm")
            values = chance_values(chance, dict(table)[name])
            mark = chance.choice((None, chance_text(chance, 0, 5)))
            self.stays(table, chance_address(chance, True), name, values, chance_question(chance), mark)
            self.assertEqual(len(values), len(gaps_of(dict(table)[name])))


if __name__ == "__main__":
    unittest.main()
