"""Points [20], [21] and [22], and what [2] and [3] ask of waymark.relative."""

import itertools
import random
import unittest

from samples import BARE, FULL, ROOT, Telling, chance_address, chance_way
from slow import slowly_gone, slowly_relative
from waymark.addresses import is_address
from waymark.errors import NoAddress, NoBase, NoName, NoPattern, NoRow, NoValue, WayError
from waymark.reading import read
from waymark.relative import relative
from waymark.resolving import resolved
from waymark.showing import show

AHEAD = ("x:", "X:", "y:", "x://h", "x://g", "x://h:0", "x://h:1", "y://h")
WAYS = ("/", "/a", "/a/", "/a/b", "/a/b/", "/a/c", "/b/a", "/a/b/c/d/", "/a/../b", "/./a/b/..")
QUESTIONS = ("", "?", "?q", "?q=")


def goal_gone(goal):
    return goal[:3] + (slowly_gone(goal[3]),) + goal[4:]


class Relating(Telling):
    def told(self, base, goal, due):
        address = relative(read(base), read(goal))
        self.same(address, read(due), (base, goal))
        self.assertEqual(show(address), due)
        self.same(resolved(read(base), address), goal_gone(read(goal)), (base, goal))


class Parts(Relating):
    def test_unlike_schemes(self):
        self.told("x:/a/b", "y:/a/c", "y:/a/c")
        self.told("x://h:1/a?q#m", "y://h:1/a?q#m", "y://h:1/a?q#m")
        self.told("x:/a", "X:/a", "X:/a")
        self.told("x:/a", "y:/a/../b/.", "y:/b/")

    def test_the_base_with_a_house_and_the_goal_without(self):
        self.told("x://h/a", "x:/a", "x:/a")
        self.told("x://h:1", "x:?q#m", "x:/?q#m")
        self.told("x://h/a", "x:/./b/../c", "x:/c")

    def test_house_or_door_unlike(self):
        self.told("x://h/a", "x://g/a", "//g/a")
        self.told("x://h/a", "x://H/a", "//H/a")
        self.told("x://h/a", "x://h:1/a", "//h:1/a")
        self.told("x://h:1/a", "x://h/a", "//h/a")
        self.told("x://h:1/a", "x://h:2/a?q#m", "//h:2/a?q#m")
        self.told("x://h/a", "x://h:0/a", "//h:0/a")
        self.told("x:/a", "x://h/a/..", "//h/")
        self.told("x:/a", "x://h:1", "//h:1/")

    def test_all_the_same(self):
        for ahead in ("x:", "x://h", "x://h:1"):
            self.told(ahead + "/a/b", ahead + "/a/b", "")
            self.told(ahead, ahead + "/", "")
            self.told(ahead + "/a/b", ahead + "/a/c#m", "c#m")
            self.told(ahead + "/a/b", ahead + "/a/b#", "#")

    def test_both_ways_are_gone_first(self):
        self.told("x:/a/./b", "x:/c/../a/b", "")
        self.told("x:/a/b/..", "x:/a/c/.", "c/")
        self.told("x:/../a/b", "x:/a/b/..", "./")
        self.told("x:/a/b/c/../..", "x:/a", "../a")

    def test_the_bases_mark_is_nothing_to_it(self):
        self.told("x:/a#m", "x:/a", "")
        self.told("x:/a#m", "x:/a#n", "#n")
        self.told("x:/a", "x:/b#", "b#")


class TheSameWay(Relating):
    def test_questions_on_either_side(self):
        self.told("x:/a/b", "x:/a/b", "")
        self.told("x:/a/b?q", "x:/a/b?q", "")
        self.told("x:/a/b?", "x:/a/b?", "")
        self.told("x:/a/b", "x:/a/b?q", "?q")
        self.told("x:/a/b", "x:/a/b?", "?")
        self.told("x:/a/b?q", "x:/a/b?r", "?r")
        self.told("x:/a/b?q", "x:/a/b?q=", "?q=")
        self.told("x:/a/b?q", "x:/a/b?", "?")
        self.told("x:/a/b?", "x:/a/b?q", "?q")

    def test_a_goal_without_a_question_and_a_base_with_one(self):
        self.told("x:/a/b?q", "x:/a/b", "b")
        self.told("x:/a/b?", "x:/a/b", "b")
        self.told("x:/a/?q", "x:/a/", "./")
        self.told("x:/?q", "x:/", "./")
        self.told("x:/?", "x:/#m", "./#m")
        self.told("x:/a?q", "x:/a", "a")


class UnlikeWays(Relating):
    def test_ways(self):
        told = {
            ("/a/b", "/a/c"): "c", ("/a/b", "/a/c/"): "c/", ("/a/b", "/a/"): "./", ("/a/b", "/a"): "../a",
            ("/a/b", "/"): "../", ("/a/b", "/a/b/"): "b/", ("/a/b/", "/a/b"): "../b", ("/a/b", "/a/b/c"): "b/c",
            ("/a/b/", "/a/b/c"): "c", ("/a/b/", "/a/b/c/"): "c/", ("/a/b/c", "/a"): "../../a", ("/a/b/c", "/a/"): "../",
            ("/", "/a"): "a", ("/", "/a/"): "a/", ("/a", "/"): "./", ("/a/", "/"): "../", ("/a", "/b"): "b",
            ("/a/b", "/c/d"): "../c/d", ("/a/b/", "/c/d/"): "../../c/d/", ("/a/b/c", "/a/d/c"): "../d/c",
            ("/a/b/c/", "/a/d/c/"): "../../d/c/", ("/a/b/a/b", "/a/c/a/b"): "../../c/a/b", ("/a", "/a/"): "a/",
            ("/a/", "/a"): "../a", ("/a/b/c/d/e", "/a/b"): "../../../b", ("/a/a/a", "/a/a"): "../a",
            ("/a/a", "/a/a/a"): "a/a",
        }
        for (base, goal), due in told.items():
            self.told("x:" + base, "x:" + goal, due)
            self.told("x://h:1" + base + "?q#m", "x://h:1" + goal, due)
            self.told("x:" + base, "x:" + goal + "?q=1#n", due + "?q=1#n")
            self.told("x:" + base + "?q", "x:" + goal + "?q", due + "?q")

    def test_the_one_step_that_stays(self):
        self.same(relative(read("x:/a/b"), read("x:/a/")), ("", None, None, (False, (".",), True), None, None))
        self.same(relative(read("x:/a"), read("x:/")), ("", None, None, (False, (".",), True), None, None))

    def test_steps_that_would_be_read_as_something_else(self):
        for step in ("b:", "//", "?", "#", "y:/", "...", "~"):
            goal = ("x", None, None, (True, ("a", step), False), None, None)
            address = relative(read("x:/a/b"), goal)
            self.same(address, ("", None, None, (False, (step,), False), None, None))
            self.same(resolved(read("x:/a/b"), read(show(address))), goal)


class EveryMix(Relating):
    def test_ordinary_ones(self):
        texts = ["".join(parts) for parts in itertools.product(AHEAD, WAYS, QUESTIONS)]
        addresses = [read(text) for text in texts]
        for base, goal in itertools.product(addresses, addresses[::3]):
            self.check(base, goal)

    def check(self, base, goal):
        told = relative(base, goal)
        self.same(told, slowly_relative(base, goal), (base, goal))
        self.assertTrue(is_address(told), (base, goal))
        self.same(resolved(base, told), goal_gone(goal), (base, goal))

    def test_addresses_of_chance(self):
        chance = random.Random(20)
        for turn in range(2000):
            self.check(chance_address(chance, True), chance_address(chance, True))
            base = chance_address(chance, True)
            goal = base[:3] + (chance_way(chance, True), chance.choice([None, (), base[4]]), chance.choice([None, "m"]))
            self.check(base, goal)
            self.check(goal, base)

    def test_ways_of_every_kind(self):
        ways = [(True, steps, ends) for count in range(4) for steps in itertools.product("ab", repeat=count)
                for ends in ((True, False) if steps else (True,))]
        for one, other in itertools.product(ways, repeat=2):
            for question, asked in itertools.product((None, (), (("a", None),)), repeat=2):
                self.check(("x", None, None, one, question, None), ("x", None, None, other, asked, None))

    def test_long_ones(self):
        base = ("x", None, None, (True, ("a",) * 400, False), None, None)
        goal = ("x", None, None, (True, ("a",) * 200 + ("b",) * 200, True), (("a", "b"),) * 400, "m")
        self.check(base, goal)
        self.check(goal, base)
        self.check(base, ("x", None, None, ROOT, None, None))
        self.check(base, base)


class NoBases(Relating):
    def test_neither_or_one_of_the_two_whole(self):
        whole = [read("x:"), read("x://h:1/a?q#m")]
        others = [BARE, read("//h"), read("//h:1/a?q#m"), read("/a"), read("a"), read("?q#m")]
        for one, other in itertools.product(whole, others):
            self.refused(NoBase, relative, one, other)
            self.refused(NoBase, relative, other, one)
        for one, other in itertools.product(others, repeat=2):
            self.refused(NoBase, relative, one, other)

    def test_its_class(self):
        error = self.refused(NoBase, relative, FULL, BARE)
        self.assertIsInstance(error, WayError)
        for other in (NoAddress, NoPattern, NoValue, NoName, NoRow):
            self.assertNotIsInstance(error, other)


class AskedAgain(Relating):
    def test_the_same_is_told(self):
        for turn in range(3):
            self.told("x:/a/b", "x:/c", "../c")
            self.refused(NoBase, relative, BARE, FULL)
            self.same(relative(FULL, FULL), BARE[:5] + ("m",))


if __name__ == "__main__":
    unittest.main()
