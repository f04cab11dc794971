"""Points [26] and [27], and what [2] asks of waymark.patterns."""

import copy
import itertools
import random
import re
import unittest

from samples import NO_SIGNS, PLAIN, SIGNS, STEP_FREE, Telling, chance_text, of_other_kinds, repr_of
from slow import PAIR, all_writings, sign_in
from waymark.errors import NoAddress, NoBase, NoName, NoPattern, NoRow, NoValue, WayError
from waymark.patterns import is_pattern, read_pattern, show_pattern

NAMED = ("number", "word", "gap", "rest")
LETTERS = "abcdefghijklmnopqrstuvwxyz"
DOCUMENTS = ((("step", "a"), ("number", "id"), ("part", "x", "tag", "")), True)

# Each piece beside the text that shows it.
SHOWN_PIECES = (
    (("step", "a"), "a"), (("step", "..."), "..."), (("step", "a/b{c}"), "a~2fb~7bc~7d"), (("step", ":!"), "~3a~21"),
    (("part", "x", "tag", ""), "x{tag}"), (("part", "", "tag", "y"), "{tag}y"), (("part", ".", "tag", "."), ".{tag}."),
    (("part", "{", "tag", "}:"), "~7b{tag}~7d~3a"), (("part", "..", "tag", ""), "..{tag}"),
    (("number", "n"), "{n:number}"), (("word", "w"), "{w:word}"), (("gap", "abcdefgh"), "{abcdefgh}"),
    (("gap", "rest"), "{rest}"),
    (("rest", "number"), "{number:rest}"),
)

NAME = "[a-z]{1,8}"
HEAD = sign_in(STEP_FREE)
STEP = re.compile(HEAD + "+")
PART = re.compile("(" + HEAD + "*)\\{(" + NAME + ")\\}(" + HEAD + "*)")
OTHER = re.compile("\\{(" + NAME + ")(?::(number|word|rest))?\\}")


def slowly_undone(text):
    return re.sub(PAIR, lambda found: chr(int(found.group()[1:], 16)), text)


def slow_piece(text):
    if OTHER.fullmatch(text):
        name, word = OTHER.fullmatch(text).groups()
        return (word or "gap", name)
    if PART.fullmatch(text):
        head, name, tail = PART.fullmatch(text).groups()
        return ("part", slowly_undone(head), name, slowly_undone(tail))
    if STEP.fullmatch(text) and slowly_undone(text) not in (".", ".."):
        return ("step", slowly_undone(text))
    return None


def slow_pattern(text):
    """Point [27] by another way: None where the text writes no pattern."""
    if text == "/":
        return ((), True)
    if not text.startswith("/"):
        return None
    ends = text.endswith("/")
    pieces = tuple(slow_piece(piece) for piece in (text[1:-1] if ends else text[1:]).split("/"))
    if None in pieces or len(pieces) > 12 or "rest" in [piece[0] for piece in pieces[:-1]]:
        return None
    names = [piece[2] if piece[0] == "part" else piece[1] for piece in pieces if piece[0] != "step"]
    return (pieces, ends) if len(names) == len(set(names)) else None


def shown_patterns():
    """Patterns of none to three pieces, ending and not, each beside the text that shows it."""
    told = [(((), True), "/")]
    for count in (1, 2, 3):
        for shown in itertools.permutations(SHOWN_PIECES, count):
            pieces, texts = zip(*shown)
            names = [piece[-2] if piece[0] == "part" else piece[1] for piece in pieces if piece[0] != "step"]
            if len(set(names)) == len(names) and "rest" not in [piece[0] for piece in pieces[:-1]]:
                told.append(((pieces, False), "/" + "/".join(texts)))
                told.append(((pieces, True), "/" + "/".join(texts) + "/"))
    return told


class Asking(Telling):
    def tell(self, thing, told):
        self.assertIs(is_pattern(thing), told, repr_of(thing))

    def tell_piece(self, piece, told):
        self.tell(((piece,), False), told)
        self.tell(((piece,), True), told)
        self.tell(((("step", "a"), ("gap", "z"), piece), True), told)


class WhatIsOne(Asking):
    def test_patterns_of_every_kind(self):
        for pattern, text in shown_patterns():
            self.tell(pattern, True)
        self.tell(DOCUMENTS, True)

    def test_other_kinds(self):
        for thing in of_other_kinds() + [None, "", "/", "/a", (), ((),), [(), True], {"a": ()}]:
            self.tell(thing, False)

    def test_a_part_too_few_or_too_many(self):
        pieces = (("step", "a"),)
        for thing in ((pieces,), (pieces, True, None), (True,), (pieces, pieces), (True, pieces), (True, True), pieces):
            self.tell(thing, False)

    def test_lists_in_the_stead_of_tuples(self):
        self.tell([(("step", "a"),), True], False)
        self.tell(([("step", "a")], True), False)
        self.tell(([], True), False)
        self.tell(((["step", "a"],), True), False)
        self.tell(((["part", "a", "b", ""],), True), False)

    def test_without_pieces(self):
        self.tell(((), True), True)
        self.tell(((), False), False)

    def test_ends_of_another_kind(self):
        for ends in [thing for thing in of_other_kinds() if not isinstance(thing, bool)] + [None, "", "True", ()]:
            self.tell(((("step", "a"),), ends), False)
            self.tell(((), ends), False)

    def test_pieces_of_another_kind(self):
        for things in of_other_kinds() + [None, "", "a", "ab"]:
            self.tell((things, True), False)

    def test_twelve_and_thirteen_pieces(self):
        for piece in (("step", "a"), ("step", "b")):
            for count in (1, 11, 12):
                self.tell(((piece,) * count, True), True)
                self.tell(((piece,) * count, False), True)
            for count in (13, 14, 400):
                self.tell(((piece,) * count, True), False)
                self.tell(((piece,) * count, False), False)
        gaps = tuple(("gap", letter) for letter in LETTERS)
        self.tell((gaps[:12], True), True)
        self.tell((gaps[:11] + (("rest", "z"),), True), True)
        self.tell((gaps[:13], True), False)
        self.tell((gaps[:12] + (("rest", "z"),), True), False)

    def test_nested_sixty_deep(self):
        deep = ("step",)
        for turn in range(57):
            deep = (deep,)
        self.tell(((deep,), True), False)
        self.tell(((("step", deep),), True), False)
        self.tell(((("gap", deep),), True), False)


class WhatIsAPiece(Asking):
    def test_another_kind(self):
        for thing in of_other_kinds() + [None, "", "a", "step", "{a}", (), ("step",), ("gap",), ("rest",), ("part",)]:
            self.tell_piece(thing, False)

    def test_a_word_that_is_none(self):
        for word in of_other_kinds() + [None, "", "Step", "steps", "numbers", "ste", "step ", "GAP", "text", "gap\n"]:
            self.tell_piece((word, "a"), False)
            self.tell_piece((word, "a", "b", "c"), False)

    def test_tuples_of_another_length(self):
        for piece in (("step", "a", "b"), ("step", "a", None), ("part", "a"), ("part", "a", "b"), ("step",),
                      ("number",), ("part", "a", "b", "c", "d"), ("part",), ("number", "a", "b"), ("word", "a", ""),
                      ("gap", "a", "b", ""), ("rest", "a", "b"), ("step", "a", "b", "c"), ("number", "a", "b", "c")):
            self.tell_piece(piece, False)

    def test_steps(self):
        for text in ("a", "...", ".a", "a.", " ", "/", "a/b", "{", "~2e", "./", "..a") + tuple(SIGNS.replace(".", "")):
            self.tell_piece(("step", text), True)
        for text in ("", ".", ".."):
            self.tell_piece(("step", text), False)
        for thing in of_other_kinds() + [None, ()] + list(NO_SIGNS):
            self.tell_piece(("step", thing), False)

    def test_parts(self):
        for head, tail in (("a", ""), ("", "a"), ("a", "b"), (".", ""), ("", "."), (".", "."), ("..", ""), ("{", "}"),
                           (" ", "/")):
            self.tell_piece(("part", head, "a", tail), True)
        self.tell_piece(("part", "", "a", ""), False)
        for sign in SIGNS:
            self.tell_piece(("part", sign, "a", ""), True)
            self.tell_piece(("part", "", "a", sign), True)

    def test_parts_of_another_kind(self):
        for thing in of_other_kinds() + [None, ()] + list(NO_SIGNS):
            self.tell_piece(("part", thing, "a", "b"), False)
            self.tell_piece(("part", "b", "a", thing), False)
            self.tell_piece(("part", thing, "a", thing), False)
            self.tell_piece(("part", thing, "a", ""), False)

    def test_names(self):
        for name in ("a", "y", "ab", "abcdefgh", "id", "step", "rest", "number", "aaaaaaaa"):
            for piece in [(word, name) for word in NAMED] + [("part", "x", name, "")]:
                self.tell_piece(piece, True)

    def test_names_that_are_none(self):
        names = ["", "abcdefghi", "A", "aB", "a1", "1", "a b", "a_", "a-", "a.", "{a}", "a:", "a\n", "\n", " a",
                 "a" * 60]
        for name in names + of_other_kinds() + [None, ()]:
            for piece in [(word, name) for word in NAMED] + [("part", "x", name, ""), ("part", "x", name, "y")]:
                self.tell_piece(piece, False)
        for sign in SIGNS:
            self.tell(((("gap", sign),), True), sign in LETTERS)
            self.tell(((("gap", "a" + sign + "b"),), True), sign in LETTERS)

    def test_a_rest_that_is_not_last(self):
        for piece in (("step", "a"), ("part", "x", "b", ""), ("number", "b"), ("word", "b"), ("gap", "b"),
                      ("rest", "b")):
            self.tell(((("rest", "a"), piece), True), False)
            self.tell(((("rest", "a"), piece), False), False)
            self.tell(((("step", "x"), ("rest", "a"), piece), True), False)
        self.tell(((("rest", "a"),), True), True)
        self.tell(((("rest", "a"),), False), True)
        self.tell(((("gap", "b"), ("rest", "a")), False), True)

    def test_two_names_alike(self):
        gaps = [lambda name, word=word: (word, name) for word in NAMED[:3]] + [lambda name: ("part", "x", name, "y")]
        for one, other in itertools.product(gaps, gaps + [lambda name: ("rest", name)]):
            self.tell(((one("a"), other("a")), True), False)
            self.tell(((one("a"), other("b")), True), True)
            self.tell(((one("a"), ("step", "a"), other("a")), False), False)
            self.tell(((one("b"), ("step", "a"), other("a")), False), True)

    def test_steps_and_a_parts_texts_are_no_names(self):
        self.tell(((("step", "a"), ("step", "a"), ("gap", "a"), ("part", "a", "b", "b")), True), True)
        self.tell(((("part", "a", "b", "a"), ("part", "a", "a", "a")), True), True)


class ShownAndRead(Telling):
    def test_told_in_the_document(self):
        self.same(read_pattern("/a/{id:number}/x{tag}/"), DOCUMENTS)
        self.same(show_pattern(DOCUMENTS), "/a/{id:number}/x{tag}/")

    def test_patterns_of_every_kind(self):
        patterns = shown_patterns()
        self.assertGreater(len(patterns), 500)
        for pattern, text in patterns:
            self.same(show_pattern(pattern), text)
            self.same(read_pattern(text), pattern, text)

    def test_each_sign_shown(self):
        for sign in SIGNS:
            text = sign if sign in PLAIN else "~" + format(ord(sign), "02x")
            self.same(show_pattern(((("step", "a" + sign),), False)), "/a" + text)
            self.same(show_pattern(((("part", sign, "a", ""),), True)), "/" + text + "{a}/")
            self.same(show_pattern(((("part", "", "a", sign + "b"),), False)), "/{a}" + text + "b")

    def test_each_sign_read(self):
        for sign in SIGNS:
            for text in all_writings(sign, STEP_FREE):
                self.same(read_pattern("/a" + text), ((("step", "a" + sign),), False), text)
                self.same(read_pattern("/" + text + "{a}/"), ((("part", sign, "a", ""),), True), text)
                self.same(read_pattern("/{a}" + text), ((("part", "", "a", sign),), False), text)

    def test_each_sign_that_is_not_free(self):
        for sign in SIGNS:
            if sign not in PLAIN + STEP_FREE + "/":
                for text in ("/" + sign, "/a" + sign, "/" + sign + "{a}", "/{a}" + sign, "/a/b" + sign + "/"):
                    self.refused(NoPattern, read_pattern, text)

    def test_patterns_of_chance(self):
        chance = random.Random(27)
        for turn in range(1000):
            names = chance.sample(["a", "b", "cc", "abcdefgh"] + list("defghijklm"), 12)
            pieces = [self.chance_piece(chance, name) for name in names[:chance.randint(0, 12)]]
            if pieces and chance.random() < 0.3:
                pieces[-1] = ("rest", "z")
            pattern = (tuple(pieces), not pieces or chance.random() < 0.5)
            self.assertTrue(is_pattern(pattern))
            self.same(read_pattern(show_pattern(pattern)), pattern)

    def chance_piece(self, chance, name):
        return chance.choice([("step", "a" + chance_text(chance, 0, 3)), ("number", name), ("word", name),
                              ("gap", name), ("part", chance_text(chance, 0, 3), name, chance_text(chance, 1, 3))])

    def test_long_ones(self):
        pattern = ((("step", "a" * 1000), ("part", "~" * 200, "a", "b")), True)
        self.same(read_pattern(show_pattern(pattern)), pattern)
        self.same(read_pattern("/" + "a/" * 12), ((("step", "a"),) * 12, True))


class NoPatterns(Telling):
    def none(self, *texts):
        for text in texts:
            self.refused(NoPattern, read_pattern, text)

    def test_its_class(self):
        error = self.refused(NoPattern, read_pattern, "")
        self.assertIsInstance(error, WayError)
        self.assertIsInstance(error, ValueError)
        for other in (NoAddress, NoBase, NoValue, NoName, NoRow):
            self.assertNotIsInstance(error, other)

    def test_what_is_no_text(self):
        self.none(*of_other_kinds(), None, (), ("/",), ["/"], {"/": 1}, DOCUMENTS)

    def test_no_slash_first(self):
        self.none("", "a", "{a}", "a/", "a/b", " /", "~2f", "x:/a", "{a}/")

    def test_two_slashes(self):
        self.none("//", "//a", "/a//", "/a//b", "///", "/{a}//", "/{a}//{b}")

    def test_braces(self):
        self.none("/{", "/}", "/{}", "/{a", "/a}", "/{a}}", "/{{a}", "/{{a}}", "/}a{", "/{a}{b}", "/{a}x{b}", "/x{a",
                  "/x{", "/{a/b}", "/{/a}", "/a{/b}", "/{a}{", "/{a}x}", "/{~61}", "/~7ba}", "/{a~7d", "/x{}", "/{}x")

    def test_names(self):
        self.none("/{A}", "/{aB}", "/{a1}", "/{1}", "/{abcdefghi}", "/{a b}", "/{ a}", "/{a }", "/{-}", "/{a.}",
                  "/{:number}", "/{abcdefghi:word}", "/{A:rest}", "/x{A}", "/x{abcdefghi}", "/{a1}y", "/{~61:word}",
                  "/{a:b:word}")
        for sign in SIGNS:
            if sign not in LETTERS:
                self.none("/{" + sign + "}", "/{a" + sign + "}", "/x{a" + sign + "}", "/{a" + sign + ":word}")

    def test_words(self):
        self.none("/{a:}", "/{a:gap}", "/{a:step}", "/{a:part}", "/{a:Number}", "/{a:numbers}", "/{a:num}",
                  "/{a: word}", "/{a:word }", "/{a::word}", "/{a:word:}", "/{a:word:rest}", "/{:}", "/{a:text}",
                  "/{a:wor~64}", "/{a:a}")

    def test_what_a_part_may_not_have(self):
        self.none("/x{a:number}", "/{a:number}x", "/x{a:word}", "/x{a:rest}", "/{a:rest}x", "/{a:word}y", "/x{a:}",
                  "/ {a}", "/{a} ", "/:{a}", "/{a}:", "/{a}~", "/~{a}", "/~2{a}", "/{a}~25", "/x{a:part}y", "/{a}\"",
                  "/?{a}")

    def test_a_rest_that_is_not_last(self):
        self.none("/{a:rest}/b", "/{a:rest}/{b}", "/{a:rest}/{b:rest}", "/x/{a:rest}/b/")

    def test_two_names_alike(self):
        self.none("/{a}/{a}", "/{a:number}/{a}", "/x{a}/{a}y", "/{a}/b/{a:rest}", "/{a:word}/{a:number}/")

    def test_dots(self):
        self.none("/.", "/..", "/./", "/../a", "/a/..", "/~2e", "/~2E", "/~2e.", "/.~2e", "/~2e~2E/", "/a/./b",
                  "/{a}/..")

    def test_pairs_that_are_none(self):
        self.none("/~", "/a~", "/~2", "/~4g", "/~25", "/~1f", "/~7f", "/~7F", "/~80", "/~ 4", "/~~41", "/a~2/b")

    def test_thirteen_pieces(self):
        self.none("/a" * 13, "/a" * 13 + "/", "/a" * 12 + "/{b}", "/a" * 12 + "/{b:rest}", "/a" * 400)

    def test_what_is_no_sign(self):
        self.none(*NO_SIGNS)
        for sign in "\n\t\r\0\x7f":
            self.none(sign, sign + "/", "/" + sign, "/a" + sign, "/a/" + sign, "/{a" + sign + "}", "/{a}" + sign,
                      "/{a:word" + sign + "}", "/{a:" + sign + "word}", "/{a:word}" + sign, "/" + sign + "{a}")

    def test_other_parts_of_an_address(self):
        self.none("/a?", "/a?b", "/a#", "/a#m", "x:/a", "//h/a", "/a:b")

    def test_short_texts_one_by_one(self):
        for count in range(6):
            for signs in itertools.product("/{}a:.", repeat=count):
                self.hold("/" + "".join(signs))
        for count in range(4):
            for signs in itertools.product("/{}aB:.!~2eE", repeat=count):
                self.hold("/" + "".join(signs))

    def test_pieces_one_by_one(self):
        texts = ("", "a", ".", "~2e", "{a}", "{b}", "{a:word}", "{b:number}", "{a:rest}", "{b:rest}", "x{a}", "{b}x",
                 "{a:gap}",
                 "{A}", "x{a:word}", "!", ":")
        for count in (1, 2, 3):
            for pieces in itertools.product(texts, repeat=count):
                self.hold("/" + "/".join(pieces))

    def test_a_sign_put_in_or_set_over_or_left_out(self):
        chance = random.Random(28)
        for pattern, text in chance.sample(shown_patterns(), 100):
            for place in range(len(text) + 1):
                sign = chance.choice(SIGNS + "/{}:~.")
                self.hold(text[:place] + sign + text[place:])
                self.hold(text[:place] + sign + text[place + 1:])
                self.hold(text[:place] + text[place + 1:])
                self.hold(text[:place])

    def hold(self, text):
        due = slow_pattern(text)
        if due is None:
            self.refused(NoPattern, read_pattern, text)
        else:
            self.same(read_pattern(text), due, text)
            self.assertTrue(is_pattern(due), text)


class NothingIsChanged(Telling):
    def test_what_is_handed_in(self):
        for thing in ([[["step", "a"]], True], {"a": [1]}, ([["gap", "a"]], True), ((["gap", ["a"]],), True)):
            before = copy.deepcopy(thing)
            self.assertIs(is_pattern(thing), False)
            self.refused(NoPattern, read_pattern, thing)
            self.assertEqual(thing, before)

    def test_asked_again(self):
        for turn in range(3):
            self.same(read_pattern("/a/{id:number}/x{tag}/"), DOCUMENTS)
            self.same(show_pattern(DOCUMENTS), "/a/{id:number}/x{tag}/")
            self.assertIs(is_pattern(DOCUMENTS), True)
            self.refused(NoPattern, read_pattern, "/{a}/{a}")


if __name__ == "__main__":
    unittest.main()
