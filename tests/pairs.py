"""Pairs of patterns, and the ways that are gone through to hold what is told of them."""

import itertools

from samples import Telling, chance_pattern
from slow import all_ways, ways_that_fit

NAMES = "abcdefghijkl"
PIECES = (("step", "a"), ("step", "1"), ("step", "ab"), ("step", "10"), ("step", "..."), ("part", "a", "v", ""),
          ("part", "", "v", "a"), ("part", "a", "v", "b"), ("part", "ab", "v", ""), ("part", "", "v", "b"),
          ("part", "1", "v", ""), ("part", "", "v", "0"), ("part", "0", "v", ""), ("part", ".", "v", ""),
          ("part", "", "v", "."), ("number", "v"), ("word", "v"), ("gap", "v"), ("rest", "v"))
TEXTS_OF_ONE = ["".join(signs) for count in (1, 2, 3, 4) for signs in itertools.product("ab01.", repeat=count)]
TEXTS_OF_TWO = ("a", "b", "1", "0", "10", "01", "ab", "ba", "aa", "aab", "abb", "aba", "...", ".a", "a.", "1.", ".b",
                "11", "100", "A", ".0", "00", "b1")
TEXTS_OF_THREE = ("a", "1", "10", "ab", "aab", "...", ".a", "A")
HEADS = ("", "a", "b", "ab", "ba", "abb", "1", "0", ".", "..")
TAILS = ("", "a", "b", "ab", "ba", "bba", "1", "0", ".", "..")


def named(pieces):
    """The same pieces, their names unlike."""
    told = []
    for piece, name in zip(pieces, NAMES):
        if piece[0] == "part":
            piece = ("part", piece[1], name, piece[3])
        elif piece[0] != "step":
            piece = (piece[0], name)
        told.append(piece)
    return tuple(told)


def patterns_of(pieces, counts, both_ends=True):
    told = [((), True)] if 0 in counts else []
    for count in counts:
        for chosen in itertools.product(pieces, repeat=count):
            if count and "rest" not in [piece[0] for piece in chosen[:-1]]:
                told += [(named(chosen), ends) for ends in ((False, True) if both_ends else (False,))]
    return told


def with_their_ways(patterns, texts, counts):
    ways = all_ways(texts, counts)
    return [(pattern, ways_that_fit(pattern, ways)) for pattern in patterns]


def pairs_of_one_piece():
    """All one-piece patterns with one another, and with none, over all short texts."""
    told = with_their_ways(patterns_of(PIECES, (0, 1)), TEXTS_OF_ONE, (0, 1))
    return itertools.product(told, told)


def pairs_of_parts():
    parts = [((("part", head, "v", tail),), False) for head, tail in itertools.product(HEADS, TAILS) if head + tail]
    others = patterns_of((("number", "v"), ("word", "v"), ("gap", "v"), ("rest", "v")), (1,), False)
    told = with_their_ways(parts + others, TEXTS_OF_ONE, (1,))
    return itertools.product(told, told)


def pairs_of_few_pieces():
    pieces = [PIECES[place] for place in (0, 5, 7, 9, 10, 13, 15, 16, 17, 18)]
    told = with_their_ways(patterns_of(pieces, (0, 1, 2), False), TEXTS_OF_TWO, (0, 1, 2, 3))
    return itertools.product(told, told)


def pairs_of_more_pieces():
    pieces = [PIECES[place] for place in (0, 5, 15, 17, 18)]
    told = with_their_ways(patterns_of(pieces, (0, 1, 2, 3), False), TEXTS_OF_THREE, (0, 1, 2, 3, 4))
    return itertools.product(told, told)


def chance_beside(chance, pattern):
    """A pattern that is like the other one in most of its pieces."""
    pieces, ends = pattern
    other = chance_pattern(chance, 12)[0]
    chosen = [chance.choice((piece, piece, piece, ("gap", "v"), ("word", "v"), ("number", "v"))) for piece in pieces]
    if chosen and chance.random() < 0.5:
        chosen[-1] = ("rest", "v")
    if chosen and chance.random() < 0.2:
        chosen[chance.randrange(len(chosen))] = ("step", "a")
    if chance.random() < 0.2:
        chosen = chosen[:chance.randint(0, len(chosen))]
    chosen = [piece for place, piece in enumerate(chosen) if piece[0] != "rest" or place == len(chosen) - 1]
    if chance.random() < 0.1:
        chosen = list(other)
    return (named(chosen), ends if chosen and chance.random() < 0.95 else True)


def wrong_way(way):
    """Why it is no way at all that might fit a pattern: it isn't rooted, has dots, or is of other kinds."""
    if not (isinstance(way, tuple) and len(way) == 3 and way[0] is True and isinstance(way[1], tuple)):
        return "kind"
    if not all(isinstance(step, str) and step not in ("", ".", "..") for step in way[1]):
        return "steps"
    return None if way[2] in (True, False) and (way[1] or way[2]) else "ends"


class Pairing(Telling):
    def is_a_way(self, way, of):
        self.assertIsNone(wrong_way(way), (way, of))
