"""Points [10], [12] and [13], and what [2] and [3] ask of waymark.reading; the places of [14] are in test_places."""

import itertools
import random
import unittest

from samples import (ASKED_FREE, BARE, FULL, MARK_FREE, NO_WAY, PLAIN, ROOT, SHOWN_HOUSES, SHOWN_MARKS,
                     SHOWN_QUESTIONS, SHOWN_SCHEMES, SIGNS, STEP_FREE, Telling, chance_address, chance_text,
                     shown_addresses, with_part)
from slow import address_writings, writes
from waymark.addresses import is_address
from waymark.errors import NoAddress
from waymark.reading import read
from waymark.showing import show


def of_way(way):
    return ("", None, None, way, None, None)


# For each place: the free signs there, the text around a sign, and the address that holds it.
PLACES = {
    "house": ("", "x://{}:1/a", lambda sign: ("x", sign, 1, (True, ("a",), False), None, None)),
    "house behind": ("", "//h{}", lambda sign: ("", "h" + sign, None, ROOT, None, None)),
    "step": (STEP_FREE, "{}", lambda sign: of_way((False, (sign,), False))),
    "step behind": (STEP_FREE, "a/b{}/", lambda sign: of_way((False, ("a", "b" + sign), True))),
    "rooted step": (STEP_FREE, "x:/{}?", lambda sign: ("x", None, None, (True, (sign,), False), (), None)),
    "name": (ASKED_FREE, "?{}", lambda sign: with_part(BARE, 4, ((sign, None),))),
    "name behind": (ASKED_FREE, "?a=b&c{}=d", lambda sign: with_part(BARE, 4, (("a", "b"), ("c" + sign, "d")))),
    "value": (ASKED_FREE, "?a={}", lambda sign: with_part(BARE, 4, (("a", sign),))),
    "value behind": (ASKED_FREE, "?a=b{}&c#", lambda sign: BARE[:4] + ((("a", "b" + sign), ("c", None)), "")),
    "mark": (MARK_FREE, "#{}", lambda sign: with_part(BARE, 5, sign)),
    "mark behind": (MARK_FREE, "?#m{}", lambda sign: BARE[:4] + ((), "m" + sign)),
}


class EachSign(Telling):
    def test_as_itself_where_it_is_plain_or_free_there(self):
        for place, (free, around, holding) in PLACES.items():
            for sign in PLAIN + free:
                self.same(read(around.format(sign)), holding(sign), (place, sign))

    def test_by_its_pair_everywhere(self):
        for place, (free, around, holding) in PLACES.items():
            for sign in SIGNS:
                figures = format(ord(sign), "02x")
                for pair in ("~" + figures, "~" + figures.upper(), "~" + figures[0] + figures[1].upper()):
                    self.same(read(around.format(pair)), holding(sign), (place, pair))

    def test_not_as_itself_elsewhere(self):
        """Such a sign is refused, or begins the next part: it is never told as itself in this place."""
        for place, (free, around, holding) in PLACES.items():
            for sign in SIGNS:
                if sign in PLAIN + free:
                    continue
                try:
                    told = read(around.format(sign))
                except NoAddress:
                    continue
                self.assertIn(sign, "/:?#&=", (place, sign))
                self.assertNotEqual(told, holding(sign), (place, sign))

    def test_the_free_signs_of_the_document(self):
        self.same(read("!$'()*,;@&=+"), of_way((False, ("!$'()*,;@&=+",), False)))
        self.same(read("?!$'()*,;@+/?:=!$'()*,;@+/?:"), with_part(BARE, 4, ((ASKED_FREE, ASKED_FREE),)))
        self.same(read("#!$'()*,;@&=+/?:"), with_part(BARE, 5, MARK_FREE))

    def test_never_free(self):
        for sign in " \"<>[]\\^`{|}":
            for before in ("", "/", "/a", "a/", "x:", "x:/", "//", "//h", "//h/", "?", "?a", "?a=", "?a=b", "#", "#m"):
                self.assertEqual(self.refused(NoAddress, read, before + sign + "a").at, len(before))


class EachPart(Telling):
    def test_what_is_shown_is_read_as_the_same(self):
        for address, text in shown_addresses():
            self.same(read(text), address, text)

    def test_a_rooted_way_without_steps_left_out(self):
        for (scheme, ahead), ((house, door), host), (question, asked), (mark, behind) in itertools.product(
                SHOWN_SCHEMES, SHOWN_HOUSES, SHOWN_QUESTIONS, SHOWN_MARKS):
            if scheme == "" and house is None:
                due = ("", None, None, NO_WAY, question, mark)
            else:
                due = (scheme, house, door, ROOT, question, mark)
            self.same(read(ahead + host + asked + behind), due)

    def test_ordinary_ones(self):
        self.same(read("http://a.b:80/x/y?q=1&r#m"), FULL)
        self.same(read(""), BARE)
        self.same(read("/"), of_way(ROOT))
        self.same(read("x:"), ("x", None, None, ROOT, None, None))
        self.same(read("//h"), ("", "h", None, ROOT, None, None))
        self.same(read("x:/a"), ("x", None, None, (True, ("a",), False), None, None))

    def test_told_in_the_document(self):
        self.same(read("~2e~2e"), of_way((False, ("..",), False)))
        self.same(read("a~2fb"), of_way((False, ("a/b",), False)))
        self.same(read("/~2E/~2e./a~2Fb/"), of_way((True, (".", "..", "a/b"), True)))

    def test_dots_are_not_gone(self):
        way = (True, ("a", "..", ".", ".", "b", ".."), False)
        self.same(read("x:/a/../././b/.."), ("x", None, None, way, None, None))

    def test_a_text_that_begins_with_a_schemes_signs(self):
        for scheme in ("a", "Z", "a1", "abcdefgh", "A1234567", "http"):
            self.same(read(scheme + ":"), (scheme, None, None, ROOT, None, None))
            self.same(read(scheme + ":/a"), (scheme, None, None, (True, ("a",), False), None, None))
            self.same(read(scheme + "://a"), (scheme, "a", None, ROOT, None, None))
            self.same(read(scheme), of_way((False, (scheme,), False)))
            self.same(read(scheme + "~3a"), of_way((False, (scheme + ":",), False)))
            self.same(read("/" + scheme), of_way((True, (scheme,), False)))
            self.same(read(scheme + "?:"), of_way((False, (scheme,), False))[:4] + (((":", None),), None))
            self.same(read(scheme + "#:"), of_way((False, (scheme,), False))[:5] + (":",))

    def test_a_colon_behind_other_signs_is_no_schemes(self):
        self.same(read("?x:y=:"), with_part(BARE, 4, (("x:y", ":"),)))
        self.same(read("#x:/"), with_part(BARE, 5, "x:/"))
        self.same(read("//h:1?a:b"), ("", "h", 1, ROOT, (("a:b", None),), None))

    def test_the_scheme_keeps_its_letters(self):
        self.same(read("HtTp://HoSt"), ("HtTp", "HoSt", None, ROOT, None, None))

    def test_doors(self):
        for door in list(range(0, 300)) + list(range(6540, 6570)) + list(range(65500, 65536)) + [9999, 10000, 59999]:
            self.same(read(f"//h:{door}"), ("", "h", door, ROOT, None, None))
            self.same(read(f"x://h:{door}/?"), ("x", "h", door, ROOT, (), None))

    def test_houses_of_sixty_signs(self):
        self.same(read("//" + "h" * 60), ("", "h" * 60, None, ROOT, None, None))
        self.same(read("//" + "~2f" * 60 + ":1/"), ("", "/" * 60, 1, ROOT, None, None))
        self.same(read("//" + "h~20" * 30 + "?"), ("", "h " * 30, None, ROOT, (), None))

    def test_questions(self):
        told = {"?": (), "?a": (("a", None),), "?a=": (("a", ""),), "?a&b": (("a", None), ("b", None)),
                "?a=&a": (("a", ""), ("a", None)), "?a=b&c=d": (("a", "b"), ("c", "d")), "??": (("?", None),),
                "?/=/": (("/", "/"),), "?~3d=~3D": (("=", "="),), "?~26&~26": (("&", None), ("&", None))}
        for text, question in told.items():
            self.same(read(text), with_part(BARE, 4, question))
            self.same(read("a" + text + "#"), ("", None, None, (False, ("a",), False), question, ""))


class AllTexts(Telling):
    """Each address of a small set beside all texts that write it: of no text two addresses come."""

    def test_each_writing_is_read_as_its_address(self):
        pool = (None, "a", "/", "a:")
        written = {}
        for house, door, step, name, mark in itertools.product(
                (None, "a", ":"), (None, 1), pool, pool, (None, "", "#")):
            for scheme, rooted, ends in itertools.product(("", "a"), (True, False), (True, False)):
                steps = () if step is None else (step,)
                question = None if name is None else ((name, None if name == "a" else name),)
                address = (scheme, house, door, (rooted, steps, ends), question, mark)
                if is_address(address):
                    for text in address_writings(address):
                        self.assertEqual(written.setdefault(text, address), address, text)
        self.assertGreater(len(written), 10000)
        for text, address in written.items():
            self.same(read(text), address, text)
            self.assertTrue(writes(text), text)

    def test_writings_of_chance(self):
        chance = random.Random(12)
        counted = 0
        for turn in range(2000):
            address = chance_address(chance)
            if sum(len(text) for text in texts_of(address)) <= 7:
                texts = address_writings(address)
                counted += 1
                for text in chance.sample(texts, min(20, len(texts))):
                    self.same(read(text), address, text)
        self.assertGreater(counted, 300)


def texts_of(address):
    scheme, house, door, way, question, mark = address
    told = [house or "", mark or ""] + list(way[1])
    for name, value in question or ():
        told += [name, value or ""]
    return told


class ShownAndRead(Telling):
    def test_addresses_of_chance(self):
        chance = random.Random(13)
        for turn in range(3000):
            address = chance_address(chance)
            self.assertTrue(is_address(address))
            self.same(read(show(address)), address)

    def test_all_signs_in_all_places(self):
        address = ("x", SIGNS[:60], 65535, (True, (SIGNS, SIGNS[::-1]), True), ((SIGNS, SIGNS), (SIGNS, "")), SIGNS)
        self.same(read(show(address)), address)
        address = ("Z9", SIGNS[34:], 0, (True, (".", "..", SIGNS), False), (), "")
        self.same(read(show(address)), address)

    def test_long_ones(self):
        addresses = [
            ("x", "h", 1, (True, ("abcd",) * 390, True), None, None),
            ("", None, None, (False, ("a",) * 400, False), None, None),
            ("", None, None, (True, ("..", ".") * 200, True), None, None),
            ("", None, None, NO_WAY, (("a", "b"),) * 400, None),
            ("", None, None, NO_WAY, (("a", None), ("b", "")) * 200, "m"),
            ("x", "~" * 60, None, (True, ("~" * 500,), False), None, None),
            ("x", None, None, ROOT, None, "m" * 1990),
        ]
        for address in addresses:
            self.assertTrue(is_address(address))
            self.assertLessEqual(len(show(address)), 2000)
            self.same(read(show(address)), address)

    def test_somewhat_longer_ones_are_not_refused(self):
        address = ("x", "h", 1, (True, ("a",) * 450, True), (("a", "b"),) * 450, "m" * 2000)
        self.same(read(show(address)), address)

    def test_texts_read_are_shown_as_texts_read_alike(self):
        chance = random.Random(14)
        for turn in range(3000):
            text = chance_text(chance, 0, 7, "ab1:/?#&=~2eE.")
            try:
                address = read(text)
            except NoAddress:
                continue
            self.assertTrue(is_address(address), text)
            self.same(read(show(address)), address, text)


class AskedAgain(Telling):
    def test_the_same_is_told(self):
        for turn in range(3):
            self.same(read("http://a.b:80/x/y?q=1&r#m"), FULL)
            self.assertEqual(self.refused(NoAddress, read, "a//b").at, 2)
            self.same(read(""), BARE)


if __name__ == "__main__":
    unittest.main()
