"""Points [41] and [42], and what [2] asks of waymark.forwards."""

import copy
import random
import unittest

from samples import WAY, Telling, chance_rules, chance_values, chance_way
from slow import name_refused, slow_trail, slowly_bound, slowly_led_on
from waymark.fitting import filled
from waymark.forwards import led_on, trail
from waymark.patterns import is_pattern, read_pattern
from waymark.reading import read


def rules_of(*rules):
    return [(read_pattern(source), read_pattern(goal)) for source, goal in rules]


def way_of(text):
    return read(text)[WAY]


class Leading(Telling):
    def leads(self, rules, way, due):
        """Rules and ways are given as they are written."""
        rules = rules_of(*rules)
        kept = copy.deepcopy(rules)
        self.same(led_on(rules, way_of(way)), None if due is None else way_of(due), (rules, way))
        self.same(rules, kept)

    def test_no_rules(self):
        for way in ("/", "", "/a", "a/", "/.."):
            self.leads((), way, None)

    def test_each_kind_of_gap(self):
        self.leads((("/a", "/b"),), "/a", "/b")
        self.leads((("/a", "/"),), "/a", "/")
        self.leads((("/", "/a/b/"),), "/", "/a/b/")
        self.leads((("/{v}", "/b/{v}/"),), "/a", "/b/a/")
        self.leads((("/x{v}", "/{v}y"),), "/xab", "/aby")
        self.leads((("/{v:number}/{w:word}/", "/{w:word}/{v:number}"),), "/70/ab/", "/ab/70")
        self.leads((("/a/{v:rest}", "/b/c/{v:rest}"),), "/a/1/2/3", "/b/c/1/2/3")
        self.leads((("/{v}/x{w}y/{u:rest}", "/{w}z/{v}/{u:rest}/"),), "/1/x2y/3/4", "/2z/1/3/4/")

    def test_gaps_that_the_goal_lacks(self):
        self.leads((("/{v}/{w}", "/{w}"),), "/a/b", "/b")
        self.leads((("/{v}/{w}/{u:rest}", "/{v}"),), "/a/b/c", "/a")
        self.leads((("/{v:number}/{w:word}", "/z"),), "/1/a", "/z")

    def test_a_way_that_does_not_fit(self):
        for way in ("/b", "/a/", "a", "/a/a", "/", "", "/.", "/a/.."):
            self.leads((("/a", "/b"),), way, None)
        self.leads((("/{v:rest}", "/b"),), "/a/..", None)
        self.leads((("/{v:number}", "/b"),), "/01", None)

    def test_the_first_rule(self):
        self.leads((("/{v}", "/1"), ("/a", "/2")), "/a", "/1")
        self.leads((("/a", "/2"), ("/{v}", "/1")), "/a", "/2")
        self.leads((("/b", "/1"), ("/{v:number}", "/2"), ("/{v}", "/3"), ("/a", "/4")), "/a", "/3")
        rules = tuple(("/" + letter, "/" + letter.upper()) for letter in "abcdefgh")
        for letter in "abcdefgh":
            self.leads(rules, "/" + letter, "/" + letter.upper())
        self.leads(rules, "/i", None)

    def test_a_goal_that_can_not_be_filled(self):
        self.leads((("/x{v}", "/.{v}"),), "/x.", None)
        self.leads((("/x{v}", "/{v}."),), "/x.", None)
        self.leads((("/x{v}", "/.{v}"),), "/x..", "/...")
        self.leads((("/x{v}", "/.{v}"),), "/xa", "/.a")
        self.leads((("/x{v}", "/.{v}"), ("/x{v}", "/y{v}")), "/x.", "/y.")
        self.leads((("/x{v}", "/.{v}"), ("/x{v}", "/y{v}")), "/xa", "/.a")
        self.leads((("/b/x{v}", "/.{v}"), ("/{u}/x{v}", "/{v}."), ("/{u:rest}", "/z/{u:rest}")), "/b/x.", "/z/b/x.")

    def test_a_rule_that_leads_to_the_same(self):
        self.leads((("/a", "/a"), ("/a", "/b")), "/a", "/a")
        self.leads((("/{v:rest}", "/{v:rest}"),), "/a/b", "/a/b")

    def test_rules_changed_behind_the_call(self):
        rules = rules_of(("/a", "/b"))
        told = led_on(rules, way_of("/a"))
        rules.clear()
        self.same(told, way_of("/b"))
        self.assertIsNone(led_on(rules, way_of("/a")))
        rules.extend(rules_of(("/a", "/c")))
        self.same(led_on(rules, way_of("/a")), way_of("/c"))

    def test_drawn_rules(self):
        chance = random.Random("rules")
        led = 0
        for turn in range(6000):
            rules, way = chance_rules(chance), chance_way(chance, True, 2)
            self.assertTrue(all(is_pattern(source) and is_pattern(goal) for source, goal in rules), rules)
            if rules and chance.random() < 0.7:
                source = chance.choice(rules)[0]
                way = filled(source, chance_values(chance, source))
            due = slowly_led_on(rules, way)
            led += due is not None
            self.same(led_on(rules, way), due, (rules, way))
        self.assertGreater(led, 2000)

    def test_drawn_goals_that_can_not_be_filled(self):
        chance = random.Random("dots")
        refused = 0
        for turn in range(2000):
            source = read_pattern(chance.choice(("/x{v}", "/{v}x", "/x{v}x", "/{u}/x{v}")))
            goal = read_pattern(chance.choice(("/.{v}", "/{v}.", "/a/.{v}/b", "/..{v}", "/.{v}.")))
            values = [(name, chance.choice((".", "..", "a")) if name == "v" else "a") for name in
                      (["u", "v"] if len(source[0]) == 2 else ["v"])]
            way = filled(source, values)
            refused += name_refused(goal, slowly_bound(source, way)[-1:]) is not None
            self.same(led_on([(source, goal)], way), slowly_led_on([(source, goal)], way), (source, goal, way))
        self.assertGreater(refused, 200)


class Trails(Telling):
    def ends(self, rules, way, most, end, *ways):
        rules = rules_of(*rules)
        kept = copy.deepcopy(rules)
        due = (end, [way_of(text) for text in (way,) + ways])
        self.same(trail(rules, way_of(way), most), due, (rules, way, most))
        self.same(trail(rules, way_of(way), most=most), due, (rules, way, most))
        if most == 60:
            self.same(trail(rules, way_of(way)), due, (rules, way, most))
        self.same(rules, kept)

    def test_rests(self):
        for most in (0, 1, 2, 60):
            self.ends((), "/a", most, "rests")
            self.ends((("/b", "/c"),), "/a", most, "rests")
            self.ends((("/{v:rest}", "/c"),), "/a/..", most, "rests")
            self.ends((("/{v:rest}", "/c"),), "a", most, "rests")
        self.ends((("/a", "/b"),), "/a", 1, "rests", "/b")
        self.ends((("/a", "/b"), ("/b", "/c/")), "/a", 60, "rests", "/b", "/c/")
        self.ends((("/x{v}", "/y{v}"), ("/y{v}", "/.{v}")), "/x.", 60, "rests", "/y.")

    def test_rests_just_when_most_is_reached(self):
        rules = (("/a", "/b"), ("/b", "/c"), ("/c", "/d"))
        self.ends(rules, "/a", 0, "more")
        self.ends(rules, "/a", 1, "more", "/b")
        self.ends(rules, "/a", 2, "more", "/b", "/c")
        self.ends(rules, "/a", 3, "rests", "/b", "/c", "/d")
        self.ends(rules, "/a", 4, "rests", "/b", "/c", "/d")

    def test_ring(self):
        self.ends((("/a", "/a"),), "/a", 60, "ring", "/a")
        self.ends((("/a", "/b"), ("/b", "/a")), "/a", 60, "ring", "/b", "/a")
        self.ends((("/a", "/b"), ("/b", "/c"), ("/c", "/b")), "/a", 60, "ring", "/b", "/c", "/b")
        self.ends((("/{u}/{v}", "/{v}/{u}"),), "/a/b", 60, "ring", "/b/a", "/a/b")
        self.ends((("/{u}/{v}", "/{v}/{u}"),), "/a/a", 60, "ring", "/a/a")
        self.ends((("/a", "/a/"), ("/a/", "/a")), "/a", 60, "ring", "/a/", "/a")

    def test_a_ring_just_when_most_is_reached(self):
        rules = (("/a", "/b"), ("/b", "/c"), ("/c", "/a"))
        self.ends(rules, "/a", 0, "more")
        self.ends(rules, "/a", 1, "more", "/b")
        self.ends(rules, "/a", 2, "more", "/b", "/c")
        self.ends(rules, "/a", 3, "ring", "/b", "/c", "/a")
        self.ends(rules, "/a", 4, "ring", "/b", "/c", "/a")
        self.ends((("/a", "/a"),), "/a", 1, "ring", "/a")
        self.ends((("/a", "/a"),), "/a", 0, "more")

    def test_more(self):
        for most in (0, 1, 2, 59, 60):
            ways = ["/" + "/".join(["b"] * turn + ["a"]) for turn in range(1, most + 1)]
            self.ends((("/{v:rest}", "/b/{v:rest}"),), "/a", most, "more", *ways)

    def test_sixty_where_most_is_left_out(self):
        for last in (59, 60, 61):
            texts = ["/q/" + "/".join(["a"] * (last - turn)) if turn < last else "/q" for turn in range(last + 1)]
            rules = rules_of(("/q/a", "/q"), ("/q/a/{v:rest}", "/q/{v:rest}"))
            end, ways = trail(rules, way_of(texts[0]))
            self.assertEqual(end, "rests" if last <= 60 else "more")
            self.same(ways, [way_of(text) for text in texts[:61]])

    def test_the_ways_are_a_new_list(self):
        rules, way = rules_of(("/a", "/b")), way_of("/a")
        first, second = trail(rules, way), trail(rules, way)
        self.assertEqual([first.__class__, first[1].__class__], [tuple, list])
        first[1].clear()
        self.same(second, ("rests", [way_of("/a"), way_of("/b")]))
        rules.clear()
        self.same(second, ("rests", [way_of("/a"), way_of("/b")]))
        self.same(trail(rules, way), ("rests", [way_of("/a")]))

    def test_drawn_trails(self):
        chance = random.Random("trails")
        told = {"rests": 0, "ring": 0, "more": 0}
        for turn in range(5000):
            rules = chance_rules(chance, 8, 2)
            if rules:
                source = chance.choice(rules)[0]
                way = filled(source, chance_values(chance, source))
            else:
                way = chance_way(chance, True)
            most = chance.choice((0, 1, 2, 3, 10))
            due = slow_trail(rules, way, most)
            told[due[0]] += 1
            self.same(trail(rules, way, most), due, (rules, way, most))
        self.assertGreater(min(told.values()), 300)


if __name__ == "__main__":
    unittest.main()
