"""Points [15], [16] and [17], and what [2] asks of waymark.ways."""

import itertools
import random
import unittest

from samples import NO_WAY, ROOT, Telling, chance_way
from slow import slowly_gone
from waymark.addresses import is_address
from waymark.reading import read
from waymark.showing import show
from waymark.ways import gone, holder


def way_of(text):
    return read(text)[3]


def shown(way):
    return show(("", None, None, way, None, None))


class Going(Telling):
    def goes(self, text, due):
        self.same(gone(way_of(text)), way_of(due), text)
        self.assertEqual(shown(gone(way_of(text))), due)


class Rooted(Going):
    def test_without_dots(self):
        for text in ("/", "/a", "/a/", "/a/b", "/a/b/", "/.../.a/a./..a/a..", "/~2f./~2e~2f"):
            self.same(gone(way_of(text)), way_of(text), text)

    def test_dots(self):
        told = {
            "/.": "/", "/./": "/", "/..": "/", "/../": "/", "/./.": "/", "/../..": "/", "/./..": "/", "/.././": "/",
            "/a/.": "/a/", "/a/./": "/a/", "/a/..": "/", "/a/../": "/", "/./a": "/a", "/../a": "/a", "/../a/": "/a/",
            "/a/./b": "/a/b", "/a/../b": "/b", "/a/../b/": "/b/", "/a/b/..": "/a/", "/a/b/../": "/a/",
            "/a/b/.": "/a/b/",
            "/a/b/../..": "/", "/a/b/../../..": "/", "/a/../../b": "/b", "/../../../a/b": "/a/b", "/a/b/../c": "/a/c",
            "/a/./././b": "/a/b", "/a/b/c/../../d": "/a/d", "/a/../b/../c": "/c", "/a/b/./..": "/a/",
            "/a/b/../.": "/a/",
            "/a/.../..": "/a/", "/.../..": "/", "/a/../.a/..a": "/.a/..a", "/..../../a.": "/a.",
        }
        for text, due in told.items():
            self.goes(text, due)

    def test_a_dot_last_and_not(self):
        self.same(gone((True, ("a", "."), False)), (True, ("a",), True))
        self.same(gone((True, ("a", "b", ".."), False)), (True, ("a",), True))
        self.same(gone((True, (".", "a"), False)), (True, ("a",), False))
        self.same(gone((True, ("a", "..", "b"), False)), (True, ("b",), False))

    def test_no_steps_left(self):
        for steps in ((".",), ("..",), ("a", ".."), ("a", "b", "..", ".."), ("..", "..", ".", "..")):
            for ends in (True, False):
                self.same(gone((True, steps, ends)), ROOT)
        self.same(gone(ROOT), ROOT)

    def test_a_way_read_by_pairs(self):
        self.goes("/a/~2e~2e/b", "/b")
        self.goes("/a/~2E", "/a/")
        self.goes("/a~2f../b", "/a~2f../b")


class NotRooted(Going):
    def test_without_steps(self):
        self.same(gone(NO_WAY), NO_WAY)

    def test_without_dots(self):
        for text in ("a", "a/", "a/b", ".../.a/a./", "a/b/c"):
            self.same(gone(way_of(text)), way_of(text), text)

    def test_dots(self):
        told = {
            ".": "./", "./": "./", "./.": "./", "..": "../", "../": "../", "../..": "../../", "../../": "../../",
            "./..": "../", ".././": "../", "../.": "../", "a/..": "./", "a/../": "./", "a/.": "a/", "./a": "a",
            "./a/": "a/", "../a": "../a", "../a/": "../a/", "a/../b": "b", "a/../..": "../", "a/../../b": "../b",
            "a/b/../../../..": "../../", "../a/..": "../", "../a/../..": "../../", "../../a/../b": "../../b",
            "a/./b": "a/b", "a/b/..": "a/", ".../..": "./", "./././a": "a", "a/../b/..": "./", "a/.././..": "../",
            "../.a/...": "../.a/...",
        }
        for text, due in told.items():
            self.goes(text, due)

    def test_no_steps_left(self):
        for steps in ((".",), ("a", ".."), ("a", "b", "..", ".."), (".", ".", ".")):
            for ends in (True, False):
                self.same(gone((False, steps, ends)), (False, (".",), True))


class EveryKind(Telling):
    def ways(self):
        for count in range(6):
            for steps in itertools.product((".", "..", "a", "b"), repeat=count):
                for rooted, ends in itertools.product((True, False), repeat=2):
                    if steps or rooted == ends:
                        yield (rooted, steps, ends)

    def test_held_against_the_slow_reckoning(self):
        for way in self.ways():
            self.same(gone(way), slowly_gone(way), way)

    def test_gone_again_it_stays(self):
        for way in self.ways():
            self.same(gone(gone(way)), gone(way), way)

    def test_what_is_told_is_a_way(self):
        for way in self.ways():
            self.assertTrue(is_address(("", None, None, gone(way), None, None)), way)
            self.assertIs(gone(way)[0], way[0])

    def test_no_dots_are_left_of_a_rooted_way(self):
        for way in self.ways():
            if way[0]:
                self.assertFalse({".", ".."} & set(gone(way)[1]), way)

    def test_ways_of_chance(self):
        chance = random.Random(15)
        for turn in range(1000):
            way = chance_way(chance, turn % 2 == 0, 12)
            self.same(gone(way), slowly_gone(way), way)
            self.same(gone(gone(way)), gone(way), way)

    def test_four_hundred_steps(self):
        for rooted in (True, False):
            self.same(gone((rooted, ("a",) * 400, False)), (rooted, ("a",) * 400, False))
            self.same(gone((rooted, ("a", "..") * 200, False)), (rooted, () if rooted else (".",), True))
            self.same(gone((rooted, ("a",) * 200 + ("..",) * 199, False)), (rooted, ("a",), True))
            up = () if rooted else ("..",)
            self.same(gone((rooted, ("a",) * 199 + ("..",) * 201, False)), (rooted, up * 2, True))
            self.same(gone((rooted, ("..",) * 399 + ("a",), False)), (rooted, up * 399 + ("a",), False))
            self.same(gone((rooted, (".",) * 400, False)), (rooted, () if rooted else (".",), True))


class Holders(Telling):
    def test_holders(self):
        told = {
            "/": (), "/a": (), "/a/": ("a",), "/a/b": ("a",), "/a/b/": ("a", "b"), "/a/b/c": ("a", "b"),
            "/.": (), "/..": (), "/a/.": ("a",), "/a/..": (), "/a/b/..": ("a",), "/a/b/.": ("a", "b"), "/a/../b": (),
            "/a/../b/": ("b",), "/../a": (), "/../../a/b": ("a",), "/a/b/../..": (), "/a/b/../../..": (),
            "/./a/./b": ("a",),
            "/a/b/../c/d": ("a", "c"), "/...": (), "/.../": ("...",), "/a/...": ("a",),
        }
        for text, due in told.items():
            self.same(holder(way_of(text)), due, text)

    def test_of_ways_of_every_kind(self):
        for count in range(5):
            for steps in itertools.product((".", "..", "a", "b"), repeat=count):
                for ends in (True, False) if steps else (True,):
                    rooted, left, left_ends = slowly_gone((True, steps, ends))
                    self.same(holder((True, steps, ends)), left if left_ends else left[:-1], steps)

    def test_four_hundred_steps(self):
        self.same(holder((True, ("a",) * 400, True)), ("a",) * 400)
        self.same(holder((True, ("a",) * 400, False)), ("a",) * 399)
        self.same(holder((True, ("a", "..") * 200, False)), ())


class AskedAgain(Telling):
    def test_the_same_is_told(self):
        for turn in range(3):
            self.same(gone((True, ("a", "..", "b"), False)), (True, ("b",), False))
            self.same(gone((False, ("a", ".."), False)), (False, (".",), True))
            self.same(holder((True, ("a", "b"), False)), ("a",))


if __name__ == "__main__":
    unittest.main()
