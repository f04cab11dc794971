"""Point [40], and what [2], [3] and [35] ask of waymark.within."""

import itertools
import random
import unittest

from pairs import (HEADS, TAILS, Pairing, chance_beside, pairs_of_few_pieces, pairs_of_more_pieces,
                   pairs_of_one_piece, pairs_of_parts)
from samples import ROOT, chance_pattern, chance_values
from slow import slowly_fits
from waymark.addresses import is_address
from waymark.fitting import bound, filled
from waymark.patterns import is_pattern, read_pattern
from waymark.within import beyond
from waymark.worth import worth_more


def part_of(head, tail):
    return ((("part", head, "v", tail),), False)


class Beyond(Pairing):
    def within(self, one, other):
        self.assertIsNone(beyond(one, other), (one, other))

    def not_within(self, one, other):
        way = beyond(one, other)
        self.is_a_way(way, (one, other))
        self.assertTrue(slowly_fits(one, way) and not slowly_fits(other, way), (one, other, way))
        self.assertTrue(bound(one, way) is not None and bound(other, way) is None, (one, other, way))
        self.same(beyond(one, other), way)

    def told(self, one, other, within):
        ask = self.within if within else self.not_within
        ask(read_pattern(one), read_pattern(other))

    def told_both(self, one, other, within, other_within):
        self.told(one, other, within)
        self.told(other, one, other_within)

    def gone_through(self, pairs, least):
        """A way that is told fits the one alone; where none is told each of those gone through fits the other too."""
        within = not_within = 0
        for (one, ways), (other, other_ways) in pairs:
            way = beyond(one, other)
            if way is None:
                within += 1
                self.assertLessEqual(ways, other_ways, (one, other))
                self.assertIs(worth_more(other, one), False, (one, other))
            else:
                not_within += 1
                self.is_a_way(way, (one, other))
                self.assertTrue(slowly_fits(one, way) and not slowly_fits(other, way), (one, other, way))
        self.assertGreater(min(within, not_within), least)


class GoneThrough(Beyond):
    def test_each_piece_against_each_other_one(self):
        self.gone_through(pairs_of_one_piece(), 100)

    def test_parts(self):
        self.gone_through(pairs_of_parts(), 300)

    def test_few_pieces(self):
        self.gone_through(pairs_of_few_pieces(), 500)

    def test_more_pieces(self):
        self.gone_through(pairs_of_more_pieces(), 500)


class Pieces(Beyond):
    def test_a_step(self):
        self.told("/a", "/a", True)
        self.told_both("/a", "/b", False, False)
        self.told_both("/ab", "/a{v}", True, False)
        self.told_both("/a", "/a{v}", False, False)
        self.told_both("/aba", "/ab{v}ba", False, False)
        self.told_both("/10", "/{v:number}", True, False)
        self.told_both("/01", "/{v:number}", False, False)
        self.told_both("/0", "/{v:number}", True, False)
        self.told_both("/1", "/{v:number}", True, False)
        self.told_both("/" + "9" * 60, "/{v:number}", True, False)
        self.told_both("/" + "9" * 61, "/{v:number}", False, False)
        self.told_both("/a", "/{v:word}", True, False)
        self.told_both("/b", "/{v:word}", True, False)
        self.told_both("/" + "a" * 61, "/{v:word}", False, False)
        self.told_both("/a", "/{v}", True, False)
        self.told_both("/b", "/{v}", True, False)
        self.told_both("/0", "/{v}", True, False)
        self.told_both("/~2f", "/{v:rest}", True, False)

    def test_a_part(self):
        self.told_both("/ab{v}", "/a{v}", True, False)
        self.told_both("/{v}ba", "/{v}a", True, False)
        self.told_both("/a{v}b", "/a{v}", True, False)
        self.told_both("/a{v}b", "/{v}b", True, False)
        self.told_both("/aa{v}bb", "/a{v}b", True, False)
        self.told_both("/a{v}", "/{v}a", False, False)
        self.told_both("/a{v}", "/b{v}", False, False)
        self.told_both("/a{v}", "/{w}", True, False)
        self.told_both("/a{v}", "/{w:rest}", True, False)
        self.told_both("/a{v}", "/{w:word}", False, False)
        self.told_both("/1{v}", "/{w:number}", False, False)
        self.told_both("/{v}.", "/.{v}", False, False)
        self.told("/a{v}", "/a{w}", True)

    def test_heads_and_tails(self):
        for head, tail, other_head, other_tail in itertools.product(HEADS, TAILS, HEADS, TAILS):
            if head + tail and other_head + other_tail:
                within = head.startswith(other_head) and tail.endswith(other_tail)
                ask = self.within if within else self.not_within
                ask(part_of(head, tail), part_of(other_head, other_tail))

    def test_long_heads_and_tails(self):
        for head, tail in (("a" * 1000, ""), ("", "b" * 1000), ("a" * 900, "b" * 900), ("a" * 60, ""), ("1" * 60, "")):
            for other in ("/{v:word}", "/{v:number}", "/a", "/x{v}"):
                self.not_within(part_of(head, tail), read_pattern(other))
            for other_head, other_tail in ((head[1:], tail), (head, tail[1:]), (head[:-1], tail), (head, tail[:-1])):
                within = head.startswith(other_head) and tail.endswith(other_tail)
                ask = self.within if within else self.not_within
                ask(part_of(head, tail), part_of(other_head, other_tail))

    def test_numbers_words_and_gaps(self):
        self.told("/{v:number}", "/{w:number}", True)
        self.told("/{v:word}", "/{w:word}", True)
        self.told("/{v}", "/{w}", True)
        self.told_both("/{v:number}", "/{v:word}", False, False)
        self.told_both("/{v:number}", "/{v}", True, False)
        self.told_both("/{v:word}", "/{v}", True, False)
        self.told("/{v:number}", "/1{v}", False)
        self.told("/{v:word}", "/{v}a", False)
        self.told("/{v}", "/a{v}", False)


class Lengths(Beyond):
    def test_no_pieces(self):
        self.told("/", "/", True)
        for other in ("/a", "/a/", "/{v}/", "/{v:rest}/", "/{v:rest}"):
            self.same(beyond(read_pattern("/"), read_pattern(other)), ROOT)
            self.told(other, "/", False)

    def test_ends_unlike(self):
        for text in ("/a", "/{v}", "/{v:rest}", "/a/{v:number}", "/x{v}"):
            self.told_both(text, text + "/", False, False)
            self.told(text, text, True)
            self.told(text + "/", text + "/", True)
            self.told_both(text, "/{v:rest}/", False, False)

    def test_fewer_and_more_pieces(self):
        for count, other in itertools.product(range(1, 13), repeat=2):
            gaps = [tuple(("gap", name) for name in "abcdefghijkl"[:number]) for number in (count, other)]
            rests = [pieces[:-1] + (("rest", "z"),) for pieces in gaps]
            for ends in (False, True):
                (self.within if count == other else self.not_within)((gaps[0], ends), (gaps[1], ends))
                (self.within if count >= other else self.not_within)((gaps[0], ends), (rests[1], ends))
                (self.within if count >= other else self.not_within)((rests[0], ends), (rests[1], ends))
                self.not_within((rests[0], ends), (gaps[1], ends))

    def test_rests(self):
        self.told("/{v:rest}", "/{w:rest}", True)
        self.told_both("/a/{v:rest}", "/{v:rest}", True, False)
        self.told_both("/{u}/{v:rest}", "/{v:rest}", True, False)
        self.told_both("/a/{v:rest}", "/{u}/b/{v:rest}", False, False)
        self.told_both("/a/b/{v:rest}", "/{u}/{v:rest}", True, False)
        self.told_both("/a/b/{v:rest}", "/a/{u:word}/{v:rest}", True, False)
        self.told_both("/{u:number}/{v:rest}", "/{u}/{v:rest}", True, False)
        self.told_both("/a/{v}", "/a/{v:rest}", True, False)
        self.told_both("/{v}", "/{v:rest}", True, False)
        self.told_both("/a/b/c/d", "/{u}/{v:rest}", True, False)
        self.told_both("/a/b", "/a/b/{v:rest}", False, False)
        self.told_both("/a/b/{v:rest}", "/a/{v}/c", False, False)

    def test_within_though_no_piece_is_like(self):
        self.told_both("/a/{b:number}", "/{x}/{y:rest}", True, False)
        self.told_both("/a/{b:number}/xy{c}/z", "/{d:word}/{e}/x{f}/{g:rest}", True, False)
        self.told_both("/1/a/b{v}c/{w:word}/", "/{a:number}/{b:word}/{c}c/{d}/", True, False)
        self.told_both("/1/ab/b{v}c/{w}/", "/{a:number}/a{b}/{c}/{d:rest}/", True, False)

    def test_one_place_beyond(self):
        for place in range(12):
            one, other = ["a"] * 12, ["{" + name + ":word}" for name in "abcdefghijkl"]
            self.told("/" + "/".join(one), "/" + "/".join(other), True)
            one[place] = "1"
            self.told("/" + "/".join(one), "/" + "/".join(other), False)
            one[place] = "{v}"
            self.told("/" + "/".join(one), "/" + "/".join(other), False)
            self.told("/" + "/".join(one), "/{v:rest}", True)


class Drawn(Beyond):
    def test_one_and_itself(self):
        chance = random.Random("itself")
        for turn in range(2000):
            pattern = chance_pattern(chance, 12)
            self.within(pattern, pattern)

    def test_drawn_patterns(self):
        chance = random.Random("beyond")
        within = not_within = 0
        for turn in range(6000):
            one = chance_pattern(chance, chance.choice((2, 4, 12)))
            other = chance_beside(chance, one)
            self.assertTrue(is_pattern(other), other)
            if chance.random() < 0.3:
                one, other = other, one
            way = beyond(one, other)
            if way is None:
                within += 1
                self.assertIs(worth_more(other, one), False, (one, other))
                for draw in range(10):
                    drawn = filled(one, chance_values(chance, one))
                    self.assertTrue(slowly_fits(other, drawn), (one, other, drawn))
            else:
                not_within += 1
                self.is_a_way(way, (one, other))
                self.assertTrue(is_address(("", None, None, way, None, None)))
                self.assertTrue(slowly_fits(one, way) and not slowly_fits(other, way), (one, other, way))
        self.assertGreater(min(within, not_within), 500)


if __name__ == "__main__":
    unittest.main()
