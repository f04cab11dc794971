"""Points [34] and [35], and what [3] asks of waymark.worth."""

import itertools
import random
import unittest

from samples import Telling, chance_pattern
from slow import slowly_fits
from waymark.patterns import read_pattern
from waymark.worth import worth_more

# From what is worth most to what is worth least; those of one row are worth the same.
RANKS = (
    (("step", "a"), ("step", "b"), ("step", "abc" * 20), ("step", "1")),
    (("part", "abc", "v", ""), ("part", "xyz", "w", "")),
    (("part", "ab", "v", "c"), ("part", "12", "v", "3")),
    (("part", "a", "v", "bc"), ("part", "~", "v", "..")),
    (("part", "", "v", "abc"),),
    (("part", "ab", "v", ""), ("part", "..", "v", "")),
    (("part", "a", "v", "b"), ("part", "a", "w", "a")),
    (("part", "", "v", "ab"),),
    (("part", "a", "v", ""), ("part", "b", "v", "")),
    (("part", "", "v", "a"), ("part", "", "abcdefgh", "b")),
    (("number", "v"), ("number", "w")),
    (("word", "v"), ("word", "w")),
    (("gap", "v"), ("gap", "abcdefgh")),
    (("rest", "v"), ("rest", "w")),
)
RANKED = [(rank, piece) for rank, pieces in enumerate(RANKS) for piece in pieces]


def pattern_of(*pieces, ends=False):
    return (pieces, ends)


def renamed(piece, name):
    if piece[0] == "step":
        return piece
    return ("part", piece[1], name, piece[3]) if piece[0] == "part" else (piece[0], name)


class Worth(Telling):
    def worth(self, one, other, told):
        """1 where one is worth more, -1 where other is, 0 where they are worth as much."""
        self.assertIs(worth_more(one, other), told == 1, (one, other))
        self.assertIs(worth_more(other, one), told == -1, (one, other))

    def written_worth(self, one, other, told):
        self.worth(read_pattern(one), read_pattern(other), told)

    def test_each_piece_against_each_other_one(self):
        for (rank, piece), (other_rank, other) in itertools.product(RANKED, RANKED):
            told = (rank < other_rank) - (rank > other_rank)
            for ends, other_ends in itertools.product((False, True), repeat=2):
                self.worth(pattern_of(piece, ends=ends), pattern_of(other, ends=other_ends), told)
            for ahead in (("step", "q"), ("number", "q"), ("gap", "q"), ("part", "q", "q", "")):
                self.worth(pattern_of(ahead, piece), pattern_of(renamed(ahead, "r"), other), told)

    def test_the_words_in_their_order(self):
        written = ("/a", "/a{v}", "/{v:number}", "/{v:word}", "/{v}", "/{v:rest}")
        for place, other_place in itertools.product(range(6), repeat=2):
            told = (place < other_place) - (place > other_place)
            self.written_worth(written[place], written[other_place], told)

    def test_two_parts(self):
        self.written_worth("/ab{v}", "/a{v}", 1)
        self.written_worth("/a{v}b", "/ab{v}", -1)
        self.written_worth("/{v}abc", "/ab{v}", 1)
        self.written_worth("/{v}ab", "/a{v}b", -1)
        self.written_worth("/a{v}b", "/c{w}d", 0)
        self.written_worth("/~20{v}", "/ab{v}", -1)
        self.written_worth("/a{v}", "/b{v}/", 0)

    def test_pieces_of_one_word(self):
        self.written_worth("/a", "/b", 0)
        self.written_worth("/a", "/abcdef", 0)
        self.written_worth("/{v:number}", "/{w:number}", 0)
        self.written_worth("/a/{v:rest}", "/b/{w:rest}", 0)

    def test_the_first_unlike_place(self):
        self.written_worth("/a/{v}/{w:rest}", "/a/{v:rest}", 1)
        self.written_worth("/{v}/a/a/a", "/{v:word}/{w:rest}", -1)
        self.written_worth("/a/{v:rest}", "/{v:number}/a/a", 1)
        self.written_worth("/b/{v}/a", "/c/{v:word}/{w}", -1)
        self.written_worth("/x{v}/{w:rest}", "/x{v}/{w}/{u}", -1)
        for tail, other in itertools.product(("", "/a", "/{t:rest}", "/x{t}/b/b"), repeat=2):
            self.written_worth("/q/{v:number}" + tail, "/p/{v:word}" + other, 1)
            self.written_worth("/q/yy{v}" + tail, "/p/x{v}" + other, 1)

    def test_fewer_pieces(self):
        self.written_worth("/", "/", 0)
        self.written_worth("/", "/a", 1)
        self.written_worth("/", "/{v:rest}", 1)
        self.written_worth("/a", "/a/b", 1)
        self.written_worth("/a", "/b/{v:rest}", 1)
        self.written_worth("/{v}/", "/{w}/{v}", 1)
        self.written_worth("/a/{v}/b", "/b/{w}", -1)
        for count, other in itertools.product(range(13), repeat=2):
            told = (count < other) - (count > other)
            self.worth((tuple(("step", "a") for turn in range(count)), True),
                       (tuple(("step", "b") for turn in range(other)), True), told)

    def test_ends_are_worth_nothing(self):
        self.written_worth("/a", "/a/", 0)
        self.written_worth("/{v:rest}", "/{v:rest}/", 0)
        self.written_worth("/a/", "/{v}", 1)
        self.written_worth("/a", "/{v}/", 1)

    def test_drawn_patterns(self):
        chance = random.Random("worth")
        places = {pieces: rank for rank, pieces in enumerate(("step", "part", "number", "word", "gap", "rest"))}

        def key(pattern):
            told = []
            for piece in pattern[0]:
                head, tail = (piece[1], piece[3]) if piece[0] == "part" else ("", "")
                told.append((1, places[piece[0]], -len(head + tail), -len(head)))
            return told + [(0,)]

        for turn in range(20000):
            one, other = chance_pattern(chance, 3), chance_pattern(chance, 3)
            self.worth(one, other, (key(one) < key(other)) - (key(one) > key(other)))


class Wider(Telling):
    def test_a_pattern_and_a_wider_one(self):
        for narrow, wide in (("/a", "/{v}"), ("/ab", "/a{v}"), ("/1", "/{v:number}"), ("/a", "/{v:word}"),
                             ("/xy{v}", "/x{v}"), ("/x{v}y", "/x{v}"), ("/x{v}y", "/{v}y"), ("/xy{v}", "/{v}"),
                             ("/{v:number}", "/{v}"), ("/{v:word}", "/{v}"), ("/{v}", "/{v:rest}"),
                             ("/a/{v}", "/{v:rest}"), ("/a/b/c", "/a/{v:rest}"), ("/a/{v:rest}", "/{v:rest}"),
                             ("/a/{v:number}/", "/{u}/{v}/"), ("/a", "/a"), ("/{v:rest}", "/{w:rest}")):
            self.assertIs(worth_more(read_pattern(wide), read_pattern(narrow)), False, (narrow, wide))

    def test_all_ways_gone_through(self):
        """No pattern is worth more than one whose ways, as far as they are gone through, all fit it."""
        texts = ("a", "b", "ab", "aab", "0b", "0", "1", "10", "A", ".a", "a.", "-")
        ways = [(True, steps, ends) for count in range(1, 4) for steps in itertools.product(texts, repeat=count)
                for ends in (False, True)] + [(True, (), True)]
        pieces = (("step", "a"), ("part", "a", "v", ""), ("part", "", "v", "b"), ("part", "a", "v", "b"),
                  ("number", "v"), ("word", "v"), ("gap", "v"), ("rest", "v"))
        patterns = [((), True)] + [((piece,), ends) for piece in pieces for ends in (False, True)]
        patterns += [((first, renamed(second, "w")), False) for first, second in itertools.product(pieces, pieces)
                     if first[0] != "rest"]
        fitting = [frozenset(way for way in ways if slowly_fits(pattern, way)) for pattern in patterns]
        wider = 0
        for (one, narrow), (other, wide) in itertools.product(zip(patterns, fitting), repeat=2):
            if narrow <= wide:
                wider += 1
                self.assertIs(worth_more(other, one), False, (one, other))
        self.assertGreater(wider, 2 * len(patterns))


if __name__ == "__main__":
    unittest.main()
