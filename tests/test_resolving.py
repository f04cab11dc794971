"""Points [18] and [19], and what [2] and [3] ask of waymark.resolving."""

import itertools
import random
import unittest

from samples import BARE, FULL, NO_WAY, ROOT, Telling, chance_address, shown_addresses
from slow import slowly_resolved
from waymark.addresses import is_address
from waymark.errors import NoAddress, NoBase, NoName, NoPattern, NoRow, NoValue, WayError
from waymark.reading import read
from waymark.resolving import resolved
from waymark.showing import show

BASES = ("x:", "x:/a", "x:/a/", "x:/a/b/c", "x:/a/b/c/", "x:/a/../b/.", "x:/../..", "x://h", "x://h:1/a/b?q=1#m",
         "x://h/a/b/?", "X://H:0/./a/..?q", "x:?q#m", "x:/a/b?#")
WAYS = ("", "a", "a/", "../a", "..", ".", "./", "../../../../b", "a/./b/..", "a/b", "...")


class Resolving(Telling):
    def comes_to(self, base, text, due):
        told = resolved(read(base), read(text))
        self.same(told, read(due), (base, text))
        self.assertEqual(show(told), due)


class TheFiveCases(Resolving):
    def test_with_a_scheme(self):
        for base in BASES:
            for text, due in (("y:", "y:/"), ("y:/a/../b", "y:/b"), ("x:", "x:/"), ("x:/..", "x:/"), ("y:?q", "y:/?q"),
                              ("y://g:2/a/.?q#m", "y://g:2/a/?q#m"), ("x:/a/b#", "x:/a/b#")):
                self.comes_to(base, text, due)

    def test_with_a_house(self):
        for base in ("x:", "x:/a/b", "x://h", "x://h:1/a?q#m"):
            for text, due in (("//g", "x://g/"), ("//g:2", "x://g:2/"), ("//g/a/../b", "x://g/b"), ("//h", "x://h/"),
                              ("//g?r#n", "x://g/?r#n"), ("//g/..", "x://g/")):
                self.comes_to(base, text, due)

    def test_with_a_rooted_way(self):
        told = {"x:/a/b?q#m": "x:", "x://h/a/b?q#m": "x://h", "x://h:1/a/b?q#m": "x://h:1", "x:?q": "x:"}
        for base, ahead in told.items():
            for text, due in (("/", "/"), ("/c", "/c"), ("/c/", "/c/"), ("/c/../d/.", "/d/"), ("/..", "/"),
                              ("/?", "/?"), ("/c?r", "/c?r"), ("/c#", "/c#"), ("/../../c", "/c")):
                self.comes_to(base, text, ahead + due)

    def test_with_steps_and_not_rooted(self):
        base = "x://h:1/a/b/c?q#m"
        for text, due in (("d", "/a/b/d"), ("d/", "/a/b/d/"), ("./d", "/a/b/d"), ("..", "/a/"), ("../", "/a/"),
                          (".", "/a/b/"), ("./", "/a/b/"), ("../d", "/a/d"), ("../../d", "/d"), ("../..", "/"),
                          ("../../../d", "/d"), ("../../../../..", "/"), ("d/../e", "/a/b/e"), ("d/.", "/a/b/d/"),
                          ("d/..", "/a/b/"), ("d?r", "/a/b/d?r"), ("d#n", "/a/b/d#n"), ("d?#", "/a/b/d?#"),
                          ("...", "/a/b/..."), ("a~2fb", "/a/b/a~2fb"), ("~2e~2e", "/a/")):
            self.comes_to(base, text, "x://h:1" + due)

    def test_steps_behind_the_bases_holder(self):
        told = {"x:": "/d", "x:/": "/d", "x:/a": "/d", "x:/a/": "/a/d", "x:/a/b": "/a/d", "x:/a/b/": "/a/b/d",
                "x:/a/..": "/d", "x:/a/.": "/a/d", "x:/a/b/..": "/a/d", "x:/a/../b": "/d", "x:/../a/b": "/a/d"}
        for base, due in told.items():
            self.comes_to(base, "d", "x:" + due)

    def test_without_steps_and_not_rooted(self):
        base = "x://h:1/a/../b/c?q=1#m"
        for text, due in (("", "/b/c?q=1"), ("#", "/b/c?q=1#"), ("#n", "/b/c?q=1#n"), ("?", "/b/c?"), ("?r", "/b/c?r"),
                          ("?r#n", "/b/c?r#n"), ("?#", "/b/c?#")):
            self.comes_to(base, text, "x://h:1" + due)
        self.comes_to("x:/a/.", "", "x:/a/")
        self.comes_to("x:/a/b/..?q", "#m", "x:/a/?q#m")
        self.comes_to("x:", "", "x:/")
        self.comes_to("x:?", "", "x:/?")
        self.comes_to("x:?", "?a", "x:/?a")

    def test_the_bases_mark_is_never_taken(self):
        for text in ("", "a", "/a", "//g", "y:/a", "?r"):
            self.assertIsNone(resolved(read("x://h/a?q#m"), read(text))[5])

    def test_a_base_without_a_house(self):
        self.same(resolved(read("x:/a/b"), read("c")), ("x", None, None, (True, ("a", "c"), False), None, None))
        self.same(resolved(read("x:/a/b"), read("//g:0")), ("x", "g", 0, ROOT, None, None))


class EveryMix(Resolving):
    def test_held_against_the_slow_reckoning(self):
        wholes = [read(text) for text in BASES]
        for base, way, question, mark in itertools.product(wholes, WAYS, ("", "?", "?r=2"), ("", "#", "#n")):
            for ahead in ("", "/", "//g/", "//g:2/", "y:/", "y://g/"):
                address = read(ahead + way + question + mark)
                self.same(resolved(base, address), slowly_resolved(base, address), (base, address))

    def test_addresses_of_chance(self):
        chance = random.Random(18)
        for turn in range(3000):
            base, address = chance_address(chance, True), chance_address(chance)
            told = resolved(base, address)
            self.same(told, slowly_resolved(base, address), (base, address))
            self.assertTrue(is_address(told), (base, address))

    def test_long_ones(self):
        base = ("x", None, None, (True, ("a",) * 400, False), None, None)
        up = ("", None, None, (False, ("..",) * 400, False), None, None)
        self.same(resolved(base, up), ("x", None, None, ROOT, None, None))
        down = ("", None, None, (False, ("b",) * 400, False), (("a", "b"),) * 400, None)
        self.same(resolved(base, down), ("x", None, None, (True, ("a",) * 399 + ("b",) * 400, False), down[4], None))


class WhatIsTold(Resolving):
    def test_it_is_whole_and_rooted_and_without_dots(self):
        addresses = [address for address, text in shown_addresses()][::7]
        for base, address in itertools.product([read(text) for text in BASES], addresses):
            told = resolved(base, address)
            self.assertTrue(is_address(told), (base, address))
            self.assertNotEqual(told[0], "")
            self.assertIs(told[3][0], True)
            self.assertFalse({".", ".."} & set(told[3][1]), (base, address))

    def test_resolved_against_any_base_it_stays(self):
        chance = random.Random(19)
        for turn in range(1000):
            told = resolved(chance_address(chance, True), chance_address(chance))
            self.same(resolved(chance_address(chance, True), told), told)


class NoBases(Resolving):
    def test_a_base_without_a_scheme(self):
        bases = [BARE, read("//h"), read("//h:1/a?q#m"), read("/a"), read("a/b"), read("?q")]
        for base in bases:
            for address in [FULL, BARE, read("x:"), read("y:/a/.."), read("//g"), read("/a"), read("a"), base]:
                self.refused(NoBase, resolved, base, address)

    def test_its_class(self):
        error = self.refused(NoBase, resolved, BARE, FULL)
        self.assertIsInstance(error, WayError)
        self.assertIsInstance(error, ValueError)
        for other in (NoAddress, NoPattern, NoValue, NoName, NoRow):
            self.assertNotIsInstance(error, other)


class AskedAgain(Resolving):
    def test_the_same_is_told(self):
        for turn in range(3):
            self.comes_to("x:/a/b", "../c", "x:/c")
            self.refused(NoBase, resolved, BARE, FULL)
            self.same(resolved(FULL, BARE), FULL[:5] + (None,))
        self.same(BARE[3], NO_WAY)


if __name__ == "__main__":
    unittest.main()
