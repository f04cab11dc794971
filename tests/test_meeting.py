"""Point [39], and what [2] and [3] ask of waymark.meeting."""

import itertools
import random
import unittest

from pairs import (HEADS, TAILS, Pairing, chance_beside, pairs_of_few_pieces, pairs_of_more_pieces,
                   pairs_of_one_piece, pairs_of_parts)
from samples import ROOT, chance_pattern, chance_values
from slow import slowly_fits
from waymark.addresses import is_address
from waymark.fitting import bound, filled
from waymark.meeting import meeting
from waymark.patterns import is_pattern, read_pattern


def part_of(head, tail):
    return ((("part", head, "v", tail),), False)


NUMBER = ((("number", "n"),), False)
WORD = ((("word", "w"),), False)


class Meeting(Pairing):
    def meets(self, one, other):
        for first, second in ((one, other), (other, one)):
            way = meeting(first, second)
            self.is_a_way(way, (first, second))
            self.assertTrue(slowly_fits(first, way) and slowly_fits(second, way), (first, second, way))
            self.assertTrue(bound(first, way) is not None and bound(second, way) is not None, (first, second, way))
            self.same(meeting(first, second), way)

    def meets_not(self, one, other):
        self.assertIsNone(meeting(one, other), (one, other))
        self.assertIsNone(meeting(other, one), (one, other))

    def told(self, one, other, meets):
        ask = self.meets if meets else self.meets_not
        ask(read_pattern(one), read_pattern(other))

    def gone_through(self, pairs, least):
        """A way that is told fits both; where none is told none of those gone through fits both."""
        met = unmet = 0
        for (one, ways), (other, other_ways) in pairs:
            way = meeting(one, other)
            if way is None:
                unmet += 1
                self.assertFalse(ways & other_ways, (one, other))
            else:
                met += 1
                self.is_a_way(way, (one, other))
                self.assertTrue(slowly_fits(one, way) and slowly_fits(other, way), (one, other, way))
        self.assertGreater(min(met, unmet), least)


class GoneThrough(Meeting):
    def test_each_piece_against_each_other_one(self):
        self.gone_through(pairs_of_one_piece(), 300)

    def test_parts(self):
        self.gone_through(pairs_of_parts(), 300)

    def test_few_pieces(self):
        self.gone_through(pairs_of_few_pieces(), 1000)

    def test_more_pieces(self):
        self.gone_through(pairs_of_more_pieces(), 1000)


class Pieces(Meeting):
    def test_steps(self):
        self.told("/a", "/a", True)
        self.told("/a", "/b", False)
        self.told("/a", "/A", False)
        self.told("/ab", "/a{v}", True)
        self.told("/a", "/a{v}", False)
        self.told("/aba", "/ab{v}ba", False)
        self.told("/10", "/{v:number}", True)
        self.told("/01", "/{v:number}", False)
        self.told("/10", "/{v:word}", False)
        self.told("/ab", "/{v:word}", True)
        self.told("/aB", "/{v:word}", False)
        self.told("/~2f", "/{v}", True)
        self.told("/~2f", "/{v:rest}", True)

    def test_the_words(self):
        words = ("/{v:number}", "/{v:word}", "/{v}", "/{v:rest}")
        for one, other in itertools.product(words, words):
            self.told(one, other, {one, other} != {"/{v:number}", "/{v:word}"})

    def test_heads_and_tails(self):
        for head, tail, other_head, other_tail in itertools.product(HEADS, TAILS, HEADS, TAILS):
            if head + tail and other_head + other_tail:
                heads = head.startswith(other_head) or other_head.startswith(head)
                tails = tail.endswith(other_tail) or other_tail.endswith(tail)
                ask = self.meets if heads and tails else self.meets_not
                ask(part_of(head, tail), part_of(other_head, other_tail))

    def test_parts_against_numbers(self):
        for head, tail in (("1", ""), ("", "1"), ("", "0"), ("10", "01"), ("1" * 59, ""), ("", "0" * 59),
                           ("1" * 30, "0" * 29)):
            self.meets(part_of(head, tail), NUMBER)
        for head, tail in (("0", ""), ("00", ""), ("0", "1"), ("a", ""), ("", "a"), ("1", "a"), ("a", "1"), ("-", ""),
                           ("1", "."), ("1" * 60, ""), ("", "0" * 60), ("1" * 30, "0" * 30), ("9" * 1000, "9" * 1000)):
            self.meets_not(part_of(head, tail), NUMBER)

    def test_parts_against_words(self):
        for head, tail in (("a", ""), ("", "a"), ("z", "z"), ("a" * 59, ""), ("", "b" * 59), ("a" * 30, "b" * 29)):
            self.meets(part_of(head, tail), WORD)
        for head, tail in (("A", ""), ("", "A"), ("1", ""), ("a", "1"), ("_", ""), ("a", "-"), ("a" * 60, ""),
                           ("", "b" * 60), ("a" * 30, "b" * 30)):
            self.meets_not(part_of(head, tail), WORD)

    def test_parts_against_gaps(self):
        for head, tail in itertools.product(HEADS + (" ", "/", "~"), TAILS + ("x" * 1000,)):
            if head + tail:
                self.meets(part_of(head, tail), ((("gap", "w"),), False))
                self.meets(part_of(head, tail), ((("rest", "w"),), False))

    def test_parts_that_would_make_dots(self):
        self.told("/.{v}", "/{v}.", True)
        self.told("/.{v}", "/.{v}", True)
        self.told("/.{v}.", "/..{v}", True)
        self.told("/.{v}", "/...", True)
        self.told("/.{v}.", "/...", True)


class Lengths(Meeting):
    def test_no_pieces(self):
        self.same(meeting(((), True), ((), True)), ROOT)
        for other in ("/a/", "/{v}/", "/{v:rest}/", "/a", "/{v:rest}"):
            self.told("/", other, False)

    def test_ends_unlike(self):
        for text in ("/a", "/{v}", "/{v:rest}", "/a/{v:number}", "/x{v}"):
            self.told(text, text + "/", False)
            self.told(text + "/", text + "/", True)
            self.told(text, text, True)

    def test_fewer_and_more_pieces(self):
        for count, other in itertools.product(range(1, 13), repeat=2):
            gaps = [tuple(("gap", name) for name in "abcdefghijkl"[:number]) for number in (count, other)]
            rests = [pieces[:-1] + (("rest", "z"),) for pieces in gaps]
            for ends in (False, True):
                (self.meets if count == other else self.meets_not)((gaps[0], ends), (gaps[1], ends))
                (self.meets if count <= other else self.meets_not)((rests[0], ends), (gaps[1], ends))
                self.meets((rests[0], ends), (rests[1], ends))

    def test_rests_on_either_side(self):
        self.told("/a/{v:rest}", "/{u}/b/c", True)
        self.told("/a/{v:rest}", "/b/{v:rest}", False)
        self.told("/a/{v:rest}", "/{u}/b/{v:rest}", True)
        self.told("/a/b/{v:rest}", "/{u}/c/{v:rest}", False)
        self.told("/a/b/{v:rest}", "/a/{v:rest}", True)
        self.told("/a/b/{v:rest}", "/a/{v}", False)
        self.told("/{u:number}/{v:rest}", "/{u:word}/{v:rest}", False)
        self.told("/{v:rest}/", "/a/{u:number}/x{v}y/", True)

    def test_one_piece_that_does_not_meet(self):
        for place in range(12):
            one, other = ["{" + name + "}" for name in "abcdefghijkl"], ["a"] * 12
            self.told("/" + "/".join(one), "/" + "/".join(other), True)
            one[place] = "b"
            self.told("/" + "/".join(one), "/" + "/".join(other), False)
            one[place] = "{v:number}"
            self.told("/" + "/".join(one), "/" + "/".join(other), False)
            self.told("/" + "/".join(one), "/{v:rest}", True)


class Drawn(Meeting):
    def test_one_and_itself(self):
        chance = random.Random("itself")
        for turn in range(2000):
            pattern = chance_pattern(chance, 12)
            self.meets(pattern, pattern)

    def test_drawn_patterns(self):
        chance = random.Random("meeting")
        met = unmet = 0
        for turn in range(6000):
            one = chance_pattern(chance, chance.choice((2, 4, 12)))
            other = chance_beside(chance, one)
            self.assertTrue(is_pattern(other), other)
            way = meeting(one, other)
            self.assertEqual(meeting(other, one) is None, way is None, (one, other))
            ways = [filled(pattern, chance_values(chance, pattern)) for pattern in (one, other) for draw in range(5)]
            if way is None:
                unmet += 1
                for drawn in ways:
                    self.assertFalse(slowly_fits(one, drawn) and slowly_fits(other, drawn), (one, other, drawn))
            else:
                met += 1
                self.is_a_way(way, (one, other))
                self.assertTrue(is_address(("", None, None, way, None, None)))
                self.assertTrue(slowly_fits(one, way) and slowly_fits(other, way), (one, other, way))
        self.assertGreater(min(met, unmet), 1000)


if __name__ == "__main__":
    unittest.main()
