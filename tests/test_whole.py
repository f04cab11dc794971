"""Point [3], row by row, over drawn addresses, patterns, tables and values; and what [2] promises of the whole."""

import copy
import itertools
import random
import unittest

from samples import (FEW_TEXTS, WAY, Telling, chance_address, chance_pattern, chance_question, chance_rules,
                     chance_table, chance_text, chance_values, chance_way, with_part)
from slow import address_writings, place_of, slowly_bound, slowly_fits, slowly_gone
from waymark.addresses import is_address, is_whole
from waymark.desk import Desk
from waymark.errors import NoAddress
from waymark.fitting import bound, filled
from waymark.forwards import led_on, trail
from waymark.meeting import meeting
from waymark.patterns import is_pattern, read_pattern, show_pattern
from waymark.plain import alike, plain, plain_text
from waymark.reading import read
from waymark.relative import relative
from waymark.resolving import resolved
from waymark.showing import show
from waymark.tables import lead, made, made_address
from waymark.ways import gone, holder
from waymark.within import beyond
from waymark.worth import worth_more

DOTS = (".", "..")


class Reading(Telling):
    def test_each_text_is_read_or_refused_at_its_place(self):
        chance = random.Random("texts")
        told = {True: 0, False: 0}
        for turn in range(4000):
            text = chance_text(chance, 0, 9, "ab/:/?#&=~27e0. \n")
            place = place_of(text)
            told[place is None] += 1
            if place is None:
                address = read(text)
                self.assertTrue(is_address(address), text)
                self.same(read(show(address)), address, text)
            else:
                self.same(self.refused(NoAddress, read, text).at, place, text)
        self.assertGreater(min(told.values()), 500)

    def test_an_address_shown_is_read_as_the_same(self):
        chance = random.Random("shown")
        shown = {}
        for turn in range(4000):
            address = chance_address(chance)
            self.same(read(show(address)), address)
            self.assertEqual(shown.setdefault(show(address), address), address)

    def test_how_a_sign_was_written_changes_nothing(self):
        chance = random.Random("writings")
        for turn in range(150):
            way = chance.choice(((True, ("a!",), False), (True, ("..", "b"), True), (True, ("A", "."), False)))
            address = ("x", chance.choice((None, "H")), None, way, chance.choice((None, (("q", "/"),))), None)
            for text in address_writings(address):
                self.same(read(text), address, text)
                self.same(plain_text(text), show(plain(address)), text)


class Resolving(Telling):
    def test_no_step_that_stays_or_goes_up(self):
        chance = random.Random("resolved")
        for turn in range(4000):
            base, address = chance_address(chance, True), chance_address(chance)
            told = resolved(base, address)
            self.assertTrue(is_address(told) and is_whole(told))
            self.assertFalse(set(told[WAY][1]) & set(DOTS), (base, address))

    def test_a_goal_told_relative_is_resolved_again(self):
        chance = random.Random("relative")
        for turn in range(4000):
            base, goal = chance_address(chance, True), chance_address(chance, True)
            if chance.random() < 0.7:
                goal = base[:WAY] + goal[WAY:]
            if chance.random() < 0.3:
                goal = with_part(goal, WAY, base[WAY])
            told = relative(base, goal)
            self.assertTrue(is_address(told))
            self.same(resolved(base, told), with_part(goal, WAY, slowly_gone(goal[WAY])), (base, goal))


class PlainForms(Telling):
    def test_the_plain_form_of_a_plain_form(self):
        chance = random.Random("plain")
        for turn in range(4000):
            address = chance_address(chance)
            self.same(plain(plain(address)), plain(address))
            self.same(plain_text(show(plain(address))), show(plain(address)))
            self.assertIs(alike(address, plain(address)), True)

    def test_plain_and_resolved_in_either_order(self):
        chance = random.Random("either order")
        for turn in range(4000):
            base, address = chance_address(chance, True), chance_address(chance)
            self.same(plain(resolved(base, address)), resolved(plain(base), plain(address)), (base, address))


class Filling(Telling):
    def test_values_are_bound_again_and_fill_again(self):
        chance = random.Random("filled")
        for turn in range(4000):
            pattern = read_pattern(show_pattern(chance_pattern(chance, chance.choice((2, 4, 12)))))
            values = chance_values(chance, pattern)
            way = filled(pattern, chance.sample(values, len(values)))
            self.same(bound(pattern, way), values, (pattern, values))
            self.same(filled(pattern, bound(pattern, way)), way, (pattern, values))

    def test_a_table_leads_a_filled_way_back(self):
        chance = random.Random("led")
        for turn in range(1500):
            table = chance_table(chance, 16, 3)
            for place, (name, pattern) in enumerate(table):
                way = made(table, name, chance_values(chance, pattern))
                told, values = lead(table, way)
                led_place = [entry[0] for entry in table].index(told)
                led_pattern = table[led_place][1]
                if worth_more(led_pattern, pattern):
                    self.assertNotEqual(told, name)
                else:
                    self.assertIs(worth_more(pattern, led_pattern), False, (table, name))
                    self.assertLessEqual(led_place, place, (table, name))
                self.same(filled(led_pattern, values), way, (table, name))


class TwoPatterns(Telling):
    def test_what_is_told_of_two(self):
        chance = random.Random("two patterns")
        counts = {}
        patterns = [chance_pattern(chance, 2) for turn in range(150)]
        ways = [filled(pattern, chance_values(chance, pattern)) for pattern in patterns for turn in range(3)]
        fitting = [frozenset(way for way in ways if slowly_fits(pattern, way)) for pattern in patterns]
        for (one, ones), (other, others) in itertools.product(zip(patterns, fitting), repeat=2):
            met, out = meeting(one, other), beyond(one, other)
            if met is None:
                self.assertFalse(ones & others, (one, other))
                self.assertIsNotNone(out, (one, other))
            else:
                self.assertTrue(slowly_fits(one, met) and slowly_fits(other, met), (one, other, met))
            if out is None:
                self.assertLessEqual(ones, others, (one, other))
                self.assertIs(worth_more(other, one), False, (one, other))
            else:
                self.assertTrue(slowly_fits(one, out) and not slowly_fits(other, out), (one, other, out))
            key = (met is None, out is None)
            counts[key] = counts.get(key, 0) + 1
        self.assertGreater(min(counts.values()), 100)
        self.assertEqual(len(counts), 3)


class Gaps(Telling):
    def test_a_text_changes_no_part_but_its_own(self):
        chance = random.Random("own part")
        hard = FEW_TEXTS + ("/", "//", "?", "#", ":", "~", "~2f", "&", "=", " ", "{", "}", "..a", "a/../b", "x://h")
        for turn in range(3000):
            table = [("n", chance_pattern(chance, 4))]
            base, question = chance_address(chance, True), chance_question(chance)
            values = chance_values(chance, table[0][1])
            for place, (name, value) in enumerate(values):
                if isinstance(value, list):
                    values[place] = (name, [chance.choice(hard) for text in value])
                elif isinstance(value, str) and ("gap", name) in table[0][1][0]:
                    values[place] = (name, chance.choice(hard))
            address = made_address(table, base, "n", values, question, "m")
            told = read(show(address))
            self.same(told, address, (table, values))
            self.same(told[:WAY] + told[WAY + 1:], base[:WAY] + (question, "m"))
            self.same(slowly_bound(table[0][1], told[WAY]), values, (table, values))
            self.same(lead(table, told[WAY]), ("n", values), (table, values))


class Asking(Telling):
    def asked_twice(self, ask, *things):
        """What is asked again is told the same, and what was handed in stays as it is."""
        kept = copy.deepcopy(things)
        first = ask(*things)
        told = copy.deepcopy(first)
        self.same(things, kept)
        if isinstance(first, list):
            first.append("z")
        self.same(ask(*things), told, (ask, things))
        self.same(things, kept)

    def test_the_same_asked_again(self):
        chance = random.Random("again")
        for turn in range(500):
            base, address = chance_address(chance, True), chance_address(chance)
            one, other = chance_pattern(chance), chance_pattern(chance)
            values, way = chance_values(chance, one), chance_way(chance, True, 3)
            table = chance_table(chance, 15) + [("z", one)]
            rules = chance_rules(chance)
            for ask, things in ((read, (show(address),)), (show, (address,)), (gone, (address[WAY],)),
                                (holder, (base[WAY],)), (resolved, (base, address)), (relative, (base, base)),
                                (plain, (address,)), (plain_text, (show(address),)), (alike, (base, address)),
                                (is_address, (address,)), (is_whole, (address,)), (is_pattern, (one,)),
                                (read_pattern, (show_pattern(one),)), (show_pattern, (one,)), (bound, (one, way)),
                                (bound, (one, filled(one, values))), (filled, (one, values)),
                                (worth_more, (one, other)), (lead, (table, filled(one, values))),
                                (made, (table, "z", values)), (made_address, (table, base, "z", values)),
                                (meeting, (one, other)), (beyond, (one, other)), (led_on, (rules, way)),
                                (trail, (rules, way, 5))):
                self.asked_twice(ask, *things)

    def test_a_desk_tells_what_the_functions_tell(self):
        chance = random.Random("desk")
        for turn in range(500):
            base, address = chance_address(chance, True), chance_address(chance)
            desk, table = Desk(show(base)), chance_table(chance, 16, 3)
            for name, pattern in table:
                self.same(desk.say("add " + name + " " + show_pattern(pattern)), "ok")
            goal = plain(resolved(plain(base), address))
            self.same(desk.say("link " + show(address)), show(relative(plain(base), goal)))
            self.same(desk.say("go " + show(address)), show(goal))
            led = lead(table, goal[WAY])
            self.same(desk.say("lead").split(" ")[0], "none" if led is None else led[0])
            for (name, one), (other_name, other) in itertools.product(table[:3], table[:3]):
                way = meeting(one, other)
                due = "none" if way is None else show(("", None, None, way, None, None))
                self.same(desk.say("both " + name + " " + other_name), due)


if __name__ == "__main__":
    unittest.main()
