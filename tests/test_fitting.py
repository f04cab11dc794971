"""Points [28] to [33], and what [2] and [3] ask of waymark.fitting."""

import copy
import itertools
import random
import unittest

from samples import (FEW_TEXTS, NO_SIGNS, ROOT, SIGNS, Hostile, Telling, chance_pattern, chance_text, chance_values,
                     chance_way, gaps_of, name_in, nested, nested_dicts, of_other_kinds, repr_of)
from slow import is_due_value, name_refused, slowly_bound, slowly_filled
from waymark.addresses import is_address
from waymark.errors import NoAddress, NoBase, NoName, NoPattern, NoRow, NoValue, WayError
from waymark.fitting import bound, filled
from waymark.patterns import read_pattern
from waymark.reading import read

LETTERS = "abcdefghijklmnopqrstuvwxyz"
PIECES = (("step", "a"), ("step", "0"), ("part", "a", "v", ""), ("part", "", "v", "a"), ("part", "ab", "v", "ba"),
          ("part", ".", "v", ""), ("part", "", "v", "."), ("part", ".", "v", "."), ("part", "1", "v", "0"),
          ("number", "v"), ("word", "v"), ("gap", "v"), ("rest", "v"))
TEXTS = FEW_TEXTS + ("aa", "aba", "abba", "abxba", "aab", "baa", ".", "..", "....", ".b", "b.", ".b.", "00", "110",
                     "100", "1x0", "-1", "+1", "1.", "1 ", " 1", "A", "aB", "a0", "_", "-", "~", "{v}", "z" * 60,
                     "z" * 61, "9" * 60, "9" * 61, "0" * 60, "1" + "0" * 59, "1" + "0" * 60)


def way_of(*steps, ends=False):
    return (True, steps, ends)


def pattern_of(*pieces, ends=False):
    return (pieces, ends)


def taken(value, *shapes):
    """What a pattern with this one gap binds of a way with this one step."""
    return bound(pattern_of(*shapes), way_of(value))


class Steps(Telling):
    def fits(self, piece, step, value=None):
        due = [] if piece[0] == "step" else [(name_in(piece), step if value is None else value)]
        for ends in (False, True):
            self.same(bound(pattern_of(piece, ends=ends), way_of(step, ends=ends)), due, (piece, step))
        self.same(bound(pattern_of(("step", "x"), piece), way_of("x", step)), due, (piece, step))

    def fits_not(self, piece, *steps):
        for step in steps:
            for ends in (False, True):
                self.assertIsNone(bound(pattern_of(piece, ends=ends), way_of(step, ends=ends)), (piece, step))
            self.assertIsNone(bound(pattern_of(("step", "x"), piece), way_of("x", step)), (piece, step))

    def test_a_step_the_same_text(self):
        for text in ("a", "A", "...", "{v}", " ", "~", "a/b", "0", "a" * 2000):
            self.fits(("step", text), text)
        self.fits_not(("step", "a"), "A", "b", "aa", "a ", " a", ".", "..")
        self.fits_not(("step", "aa"), "a", "aaa")
        self.fits_not(("step", "..."), ".", "..", "....")

    def test_a_part_with_a_head(self):
        piece = ("part", "x", "v", "")
        self.fits(piece, "xa", "a")
        self.fits(piece, "xx", "x")
        self.fits(piece, "x..", "..")
        self.fits(piece, "x/ ~", "/ ~")
        self.fits_not(piece, "x", "a", "ax", "X", "Xa", " xa", ".", "..")

    def test_a_part_with_a_tail(self):
        piece = ("part", "", "v", "x")
        self.fits(piece, "ax", "a")
        self.fits(piece, "xx", "x")
        self.fits(piece, ".x", ".")
        self.fits_not(piece, "x", "a", "xa", "X", "aX", "ax ", ".", "..")

    def test_a_part_with_both(self):
        piece = ("part", "ab", "v", "cd")
        self.fits(piece, "abxcd", "x")
        self.fits(piece, "ababcdcd", "abcd")
        self.fits_not(piece, "abcd", "ab", "cd", "abx", "xcd", "abxc", "bxcd", "acd", "abd", "xabxcd", "abxcdx")

    def test_head_and_tail_that_lie_over_one_another(self):
        self.fits_not(("part", "ab", "v", "ba"), "aba", "ab", "ba", "abba", "a")
        self.fits(("part", "ab", "v", "ba"), "abbba", "b")
        self.fits(("part", "ab", "v", "ba"), "abaaba", "aa")
        self.fits_not(("part", "aa", "v", "aa"), "aa", "aaa", "aaaa")
        self.fits(("part", "aa", "v", "aa"), "aaaaa", "a")
        self.fits_not(("part", "abc", "v", "abc"), "abc", "abcabc", "abcab")

    def test_one_sign_more_than_head_and_tail(self):
        for head, tail in (("x", ""), ("", "x"), ("x", "x"), ("xy", "z"), ("a" * 900, "b" * 900), (".", "."),
                           ("..", ""), ("", "...")):
            piece = ("part", head, "v", tail)
            self.fits_not(piece, head + tail)
            for sign in "a/ 0~":
                self.fits(piece, head + sign + tail, sign)

    def test_a_number(self):
        piece = ("number", "v")
        for figures in ("0", "1", "9", "10", "1000", "9" * 59, "9" * 60, "1" + "0" * 59):
            self.fits(piece, figures, int(figures))
        self.fits_not(piece, "00", "01", "0" * 60, "9" * 61, "1" + "0" * 60, "0" + "9" * 60, "-1", "+1", "1 ", " 1",
                      "1_0", "1.0", "1e3", "a", "1a", "a1", "0x1", ".", "..")

    def test_a_word(self):
        piece = ("word", "v")
        for word in ("a", "z", "abc", LETTERS, "a" * 60):
            self.fits(piece, word)
        self.fits_not(piece, "a" * 61, "A", "aB", "Ba", "a1", "1", "a ", " a", "a-b", "a_b", "a.", ".", "..", "{", "`")

    def test_a_gap(self):
        for text in ("a", " ", "...", "/", "{v}", "0" * 61, "a" * 2000, ".a", SIGNS):
            self.fits(("gap", "v"), text)

    def test_every_sign_in_every_piece(self):
        for sign in SIGNS:
            for piece in PIECES:
                for text in (sign, "a" + sign, sign + "1", "1" + sign):
                    pattern, way = pattern_of(piece), way_of(text)
                    self.same(bound(pattern, way), slowly_bound(pattern, way), (piece, text))

    def test_a_dot_fits_none(self):
        for dot in (".", ".."):
            self.fits_not(("gap", "v"), dot)
            self.fits_not(("word", "v"), dot)
            self.fits_not(("number", "v"), dot)
            self.fits_not(("rest", "v"), dot)
            for head, tail in ((".", ""), ("", "."), (".", "."), ("..", "")):
                self.fits_not(("part", head, "v", tail), dot)
        self.fits(("part", ".", "v", ""), "...", "..")
        self.fits(("part", ".", "v", ""), ".a", "a")
        self.fits(("part", "", "v", "."), "a.", "a")
        self.fits(("part", ".", "v", "."), "...", ".")


class Ways(Telling):
    def told(self, pattern, way, due):
        """Both are given as they are written."""
        self.same(bound(read_pattern(pattern), read(way)[3]), due, (pattern, way))

    def test_the_documents_pattern(self):
        self.told("/a/{id:number}/x{tag}/", "/a/7/xy/", [("id", 7), ("tag", "y")])
        self.told("/a/{id:number}/x{tag}/", "/a/7/x/", None)
        self.told("/a/{id:number}/x{tag}/", "/a/07/xy/", None)

    def test_rooted_or_not(self):
        self.told("/a", "/a", [])
        self.told("/a", "a", None)
        self.told("/a/", "a/", None)
        self.told("/{v}/{w}", "a/b", None)
        self.told("/{v:rest}", "a/b", None)

    def test_ends_as_the_pattern(self):
        for pattern, way, due in (("/a", "/a", []), ("/{v}", "/b", [("v", "b")]),
                                  ("/{v:rest}", "/b/c", [("v", ["b", "c"])])):
            self.told(pattern, way, due)
            self.told(pattern + "/", way + "/", due)
            self.told(pattern + "/", way, None)
            self.told(pattern, way + "/", None)

    def test_without_pieces_and_steps(self):
        self.told("/", "/", [])
        self.told("/", "", None)
        self.told("/", "/a", None)
        self.told("/", "/a/", None)
        self.told("/", "/.", None)
        self.told("/{v}/", "/", None)
        self.told("/{v:rest}/", "/", None)
        self.told("/{v:rest}/", "", None)
        self.told("/a/", "/", None)

    def test_as_many_steps_as_pieces(self):
        for count in range(13):
            pattern = (tuple(("gap", name) for name in LETTERS[:count]), True)
            for steps in range(15):
                way = way_of(*LETTERS[:steps], ends=True)
                due = list(zip(LETTERS, LETTERS[:count])) if steps == count else None
                self.same(bound(pattern, way), due, (count, steps))

    def test_a_rest(self):
        self.told("/{v:rest}", "/a", [("v", ["a"])])
        self.told("/{v:rest}", "/a/b/c", [("v", ["a", "b", "c"])])
        self.told("/a/{v:rest}", "/a", None)
        self.told("/a/{v:rest}", "/a/b", [("v", ["b"])])
        self.told("/a/{v:rest}", "/b/b", None)
        self.told("/{w}/{v:rest}", "/a", None)
        self.told("/{w}/{v:rest}/", "/a/b/c/d/", [("w", "a"), ("v", ["b", "c", "d"])])
        self.told("/{w:number}/{v:rest}", "/a/b/c", None)
        way = way_of(*["s"] * 400)
        self.same(bound(read_pattern("/{v:rest}"), way), [("v", ["s"] * 400)])
        self.same(bound(read_pattern("/{w}/{v:rest}"), way), [("w", "s"), ("v", ["s"] * 399)])

    def test_a_rest_behind_eleven_pieces(self):
        pieces = tuple(("word", name) for name in LETTERS[:11]) + (("rest", "z"),)
        for count in range(16):
            way = way_of(*LETTERS[:count])
            due = list(zip(LETTERS[:11], LETTERS)) + [("z", list(LETTERS[11:count]))] if count > 11 else None
            self.same(bound((pieces, False), way), due, count)

    def test_a_dot_anywhere(self):
        for dot in (".", ".."):
            self.told("/{v:rest}", "/" + dot, None)
            for place in range(4):
                steps = ["a", "b", "c", "d"]
                steps[place] = dot
                for pattern in ("/{v:rest}", "/{w}/{v:rest}", "/{s}/{t}/{u}/{v}"):
                    self.told(pattern, "/" + "/".join(steps), None)
                    self.told(pattern + "/", "/" + "/".join(steps) + "/", None)

    def test_pieces_in_their_order(self):
        self.told("/{w:word}/{n:number}", "/a/1", [("w", "a"), ("n", 1)])
        self.told("/{w:word}/{n:number}", "/1/a", None)
        self.told("/a/b", "/b/a", None)
        self.told("/{b}/{a}", "/1/2", [("b", "1"), ("a", "2")])

    def test_each_piece_beside_each_other_one(self):
        names = [piece[:1] + ((piece[1], "w") + piece[3:] if piece[0] == "part" else ("w",)) for piece in PIECES[2:]]
        firsts = [piece for piece in PIECES if piece[0] != "rest"]
        texts = TEXTS[:25]
        for first, second in itertools.product(firsts, names):
            for texts_of_way in itertools.product(texts, texts[::3]):
                pattern, way = pattern_of(first, second), way_of(*texts_of_way)
                self.same(bound(pattern, way), slowly_bound(pattern, way), (pattern, way))

    def test_drawn_ways(self):
        chance = random.Random("ways")
        fitting = 0
        for turn in range(20000):
            pattern, way = chance_pattern(chance, 3), chance_way(chance, chance.random() < 0.9, 4)
            due = slowly_bound(pattern, way)
            fitting += due is not None
            self.same(bound(pattern, way), due, (pattern, way))
        self.assertGreater(fitting, 200)


class Values(Telling):
    def test_each_kind(self):
        self.same(taken("xay", ("part", "x", "v", "y")), [("v", "a")])
        self.same(taken("12", ("number", "v")), [("v", 12)])
        self.same(taken("ab", ("word", "v")), [("v", "ab")])
        self.same(taken("12", ("gap", "v")), [("v", "12")])
        self.same(taken("12", ("rest", "v")), [("v", ["12"])])
        self.same(taken("12", ("step", "12")), [])

    def test_a_number_of_sixty_figures(self):
        for figures in ("9" * 60, "1" + "0" * 59, "123456789" * 6 + "123456"):
            told = taken(figures, ("number", "v"))
            self.same(told, [("v", int(figures))])
            self.assertIs(told[0][1].__class__, int)

    def test_lists_and_tuples(self):
        told = bound(read_pattern("/{v}/{w:rest}"), way_of("a", "b"))
        self.assertIs(told.__class__, list)
        self.assertEqual([pair.__class__ for pair in told], [tuple, tuple])
        self.assertIs(told[1][1].__class__, list)

    def test_every_list_is_new(self):
        for text in ("/{v}/{w:rest}", "/{v:rest}", "/a/b"):
            pattern, way = read_pattern(text), way_of("a", "b")
            first, second = bound(pattern, way), bound(pattern, way)
            self.assertIsNot(first, second)
            kept = copy.deepcopy(second)
            for pair in first:
                if isinstance(pair[1], list):
                    pair[1].append("z")
            first.append(("z", "z"))
            self.same(second, kept)
            self.same(bound(pattern, way), kept)
            self.same(way, way_of("a", "b"))

    def test_none_where_it_does_not_fit(self):
        self.assertIsNone(bound(read_pattern("/a"), way_of("b")))
        self.same(bound(read_pattern("/a"), way_of("a")), [])


class Filling(Telling):
    def fills(self, pattern, values, way):
        """Pattern and way are given as they are written."""
        for pairs in itertools.permutations(values):
            told = filled(read_pattern(pattern), list(pairs))
            self.same(told, read(way)[3], (pattern, pairs))
            self.assertTrue(is_address(("", None, None, told, None, None)))

    def refuses(self, pattern, values, name):
        kept = repr_of(values)
        refusal = self.refused(NoValue, filled, read_pattern(pattern), values)
        self.same(refusal.name, name, (pattern, repr_of(values)))
        self.assertEqual(repr_of(values), kept)

    def refuses_values(self, pattern, *values):
        for value in values:
            self.refuses(pattern, [("v", value)], "v")

    def test_each_kind(self):
        self.fills("/", [], "/")
        self.fills("/a/b", [], "/a/b")
        self.fills("/a/", [], "/a/")
        self.fills("/x{v}y", [("v", "a")], "/xay")
        self.fills("/{v:number}", [("v", 0)], "/0")
        self.fills("/{v:number}/", [("v", 120)], "/120/")
        self.fills("/{v:word}", [("v", "ab")], "/ab")
        self.fills("/{v}", [("v", "A b")], "/A~20b")
        self.fills("/{v:rest}", [("v", ["a"])], "/a")
        self.fills("/{v:rest}/", [("v", ["a", "b/c", "..."])], "/a/b~2fc/.../")

    def test_pairs_in_any_order(self):
        self.fills("/a/{id:number}/x{tag}/{w:word}/{r:rest}",
                   [("id", 7), ("tag", "?"), ("w", "ab"), ("r", ["1", "2"])], "/a/7/x~3f/ab/1/2")

    def test_the_way_is_of_plain_kinds(self):
        way = filled(read_pattern("/{v:rest}/"), [("v", ["a", "b"])])
        self.same(way, (True, ("a", "b"), True))
        self.assertIs(way[1].__class__, tuple)

    def test_a_gap_without_a_pair(self):
        self.refuses("/{v}", [], "v")
        self.refuses("/{v}/{w}", [("v", "a")], "w")
        self.refuses("/{v}/{w}", [("w", "a")], "v")
        self.refuses("/{v}/{w}", [], "v")
        self.refuses("/{w}/{v}", [], "w")
        self.refuses("/a/x{v}", [("a", "a")], "v")
        self.refuses("/{v}", [("V", "a"), ("vv", "a"), ("", "a")], "v")

    def test_a_gap_with_more_than_one_pair(self):
        for pattern, value in (("/{v}", "a"), ("/{v:number}", 1), ("/{v:word}", "a"), ("/{v:rest}", ["a"]),
                               ("/x{v}", "a")):
            self.fills(pattern, [("v", value)], "/xa" if "x" in pattern else "/1" if value == 1 else "/a")
            self.refuses(pattern, [("v", value), ("v", value)], "v")
            self.refuses(pattern, [("v", value), ("v", None)], "v")
            self.refuses(pattern, [("v", None), ("v", value)], "v")
            self.refuses(pattern, [("v", value)] * 3, "v")

    def test_the_first_gap_in_the_patterns_order(self):
        self.refuses("/{v:number}/{w:word}", [("w", "1"), ("v", "a")], "v")
        self.refuses("/{w:word}/{v:number}", [("v", "a"), ("w", "1")], "w")
        self.refuses("/{w:word}/{v:number}", [("v", "a"), ("w", "a")], "v")
        self.refuses("/{a}/{b}/{c}", [("a", "a"), ("c", "c"), ("c", "c")], "b")
        self.refuses("/{a}/{b}/{c}", [("c", ""), ("b", "."), ("a", "a")], "b")

    def test_gaps_ahead_of_other_names(self):
        self.refuses("/{v}", [("z", "a")], "v")
        self.refuses("/{v}", [("z", "a"), ("v", "")], "v")
        self.refuses("/{v}/{w}", [("z", "a"), ("v", "a"), ("w", ".")], "w")

    def test_a_name_that_is_no_gaps(self):
        self.refuses("/", [("z", "a")], "z")
        self.refuses("/a", [("a", "a")], "a")
        self.refuses("/{v}", [("v", "a"), ("z", "a")], "z")
        self.refuses("/{v}", [("z", "a"), ("v", "a")], "z")
        self.refuses("/{v}", [("y", "a"), ("v", "a"), ("x", "a")], "y")
        self.refuses("/{v}", [("x", "a"), ("v", "a"), ("y", "a")], "x")
        for name in ("", "V", " v", "v ", "vv", "?", "a" * 2000):
            self.refuses("/{v}", [("v", "a"), (name, Hostile())], name)

    def test_parts(self):
        self.fills("/x{v}", [("v", "..")], "/x..")
        self.fills("/.{v}", [("v", "..")], "/...")
        self.fills("/.{v}", [("v", "a")], "/.a")
        self.fills("/{v}.", [("v", "a")], "/a.")
        self.fills("/.{v}.", [("v", ".")], "/...")
        self.fills("/..{v}", [("v", ".")], "/...")
        self.fills("/x{v}y", [("v", "/ {v}")], "/x~2f~20~7bv~7dy")
        self.refuses_values("/.{v}", ".")
        self.refuses_values("/{v}.", ".")
        for pattern in ("/x{v}", "/{v}x", "/x{v}y", "/.{v}"):
            self.refuses_values(pattern, "", None, *NO_SIGNS)
            self.refuses_values(pattern, *of_other_kinds())

    def test_numbers(self):
        for number in (0, 1, 10 ** 59, 10 ** 60 - 1):
            self.fills("/{v:number}", [("v", number)], "/" + str(number))
        self.refuses_values("/{v:number}", True, False, "0", "1", "", -1, -10 ** 60, 10 ** 60, 10 ** 61, 10 ** 5000,
                            -10 ** 5000, 1.0, 0.0, 1j, None, [1], (1,), b"1", {1: 1}, *NO_SIGNS)
        for thing in of_other_kinds():
            if thing.__class__ is not int:
                self.refuses_values("/{v:number}", thing)

    def test_words(self):
        for word in ("a", "z", LETTERS, "a" * 60):
            self.fills("/{v:word}", [("v", word)], "/" + word)
        self.refuses_values("/{v:word}", "", "a" * 61, "A", "aB", "a1", "1", "a ", " a", "a-b", ".", "..", None,
                            ["a"], ["a", "b"], ("a",), ("a", "b"), {"a": "b"}, *NO_SIGNS)
        self.refuses_values("/{v:word}", *of_other_kinds())

    def test_gaps(self):
        for text, way in (("a", "/a"), ("...", "/..."), (" ", "/~20"), ("a/b", "/a~2fb"), ("~2e", "/~7e2e"),
                          ("00", "/00")):
            self.fills("/{v}", [("v", text)], way)
        self.refuses_values("/{v}", "", ".", "..", None, ("a",), ["a"], *NO_SIGNS)
        self.refuses_values("/{v}", *of_other_kinds())

    def test_rests(self):
        self.refuses_values("/{v:rest}", [], (), ("a",), ("a", "b"), "a", "", "ab", None, {"a": "b"}, {"a"},
                            ["."], [".."], ["a", "."], ["..", "a"], [""], ["a", ""], [None], ["a", None], [1],
                            ["a", ["b"]], [["a"]], [("a",)], ["a", True], ["a", b"b"], ["a", Hostile()])
        self.refuses_values("/{v:rest}", *[["a", text] for text in NO_SIGNS])
        for thing in of_other_kinds():
            if not (isinstance(thing, list) and thing == ["a"]):
                self.refuses_values("/{v:rest}", thing)
                self.refuses_values("/{v:rest}", ["a", thing])
        self.fills("/{v:rest}", [("v", ["s"] * 400)], "/" + "/".join(["s"] * 400))

    def test_values_nested_deep(self):
        for pattern in ("/{v}", "/{v:number}", "/{v:word}", "/{v:rest}", "/x{v}"):
            self.refuses_values(pattern, nested(list, 60), nested(tuple, 60), nested_dicts(60), [nested(list, 59)],
                                Hostile(), [Hostile()])
            self.refuses(pattern, [("v", Hostile()), ("v", Hostile())], "v")
            self.refuses(pattern, [("w", Hostile())], "v")

    def test_the_refusal(self):
        refusal = self.refused(NoValue, filled, read_pattern("/{v}"), [])
        self.assertIsInstance(refusal, WayError)
        self.assertIsInstance(refusal, ValueError)
        for other in (NoAddress, NoBase, NoPattern, NoName, NoRow):
            self.assertNotIsInstance(refusal, other)

    def test_nothing_handed_in_is_changed_or_kept(self):
        pattern, rest = read_pattern("/{v}/{w:rest}"), ["b", "c"]
        values = [("w", rest), ("v", "a")]
        way = filled(pattern, values)
        self.same(values, [("w", ["b", "c"]), ("v", "a")])
        rest.append("d")
        values.pop()
        self.same(way, way_of("a", "b", "c"))
        self.same(filled(pattern, [("v", "a"), ("w", rest)]), way_of("a", "b", "c", "d"))

    def test_drawn_values(self):
        chance = random.Random("values")
        wrong = (".", "..", "", "...", "a", "A", 0, 10 ** 60, True, None, [], ["a"], ["."], ("a",), "1")
        refusals = 0
        for turn in range(20000):
            pattern = chance_pattern(chance, 4)
            values = chance_values(chance, pattern)
            for change in range(chance.randint(0, 2)):
                place = chance.randint(0, len(values))
                name = chance.choice([name for name, value in values] + ["z"])
                values[place:place + chance.randint(0, 1)] = [(name, chance.choice(wrong))][:chance.randint(0, 1)]
            chance.shuffle(values)
            due = name_refused(pattern, values)
            if due is None:
                self.same(filled(pattern, values), slowly_filled(pattern, values), (pattern, values))
            else:
                refusals += 1
                self.same(self.refused(NoValue, filled, pattern, values).name, due, (pattern, values))
        self.assertGreater(refusals, 2000)


class ThereAndBack(Telling):
    def test_filled_and_bound_again(self):
        chance = random.Random("there")
        for turn in range(10000):
            pattern = chance_pattern(chance, 12 if turn % 10 == 0 else 4)
            values = chance_values(chance, pattern)
            pairs = chance.sample(values, len(values))
            way = filled(pattern, pairs)
            self.same(bound(pattern, way), values, (pattern, way))
            self.same(slowly_bound(pattern, way), values, (pattern, way))

    def test_bound_and_filled_again(self):
        chance = random.Random("back")
        ways = [filled(pattern, chance_values(chance, pattern))
                for pattern in [chance_pattern(chance, 3) for turn in range(300)]]
        fitting = 0
        for turn in range(300):
            pattern = chance_pattern(chance, 3)
            for way in ways:
                values = bound(pattern, way)
                if values is not None:
                    fitting += 1
                    self.same(filled(pattern, values), way, (pattern, way))
                    self.same(filled(pattern, values[::-1]), way, (pattern, way))
        self.assertGreater(fitting, 1000)

    def test_every_piece_with_every_text(self):
        for piece, text in itertools.product(PIECES, TEXTS):
            pattern, way = pattern_of(piece), way_of(text)
            values = bound(pattern, way)
            if values is not None:
                self.same(filled(pattern, values), way, (piece, text))
            for gap in gaps_of(pattern):
                value = [text] if gap[0] == "rest" else text
                if is_due_value(gap, value):
                    told = filled(pattern, [("v", value)])
                    self.same(bound(pattern, told), [("v", value)], (piece, text))

    def test_texts_of_any_signs(self):
        chance = random.Random("signs")
        for turn in range(2000):
            text = chance_text(chance, 1, 6)
            if text not in (".", ".."):
                for pattern, value in (("/{v}", text), ("/x{v}", text), ("/{v:rest}/", [text, text])):
                    told = filled(read_pattern(pattern), [("v", value)])
                    self.same(bound(read_pattern(pattern), told), [("v", value)], text)

    def test_without_gaps(self):
        self.same(filled(((), True), []), ROOT)
        self.same(bound(((), True), ROOT), [])
        self.same(bound(read_pattern("/a/b"), filled(read_pattern("/a/b"), [])), [])


if __name__ == "__main__":
    unittest.main()
