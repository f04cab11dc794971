"""Points [23], [24] and [25], and what [2] and [3] ask of waymark.plain."""

import random
import unittest

from samples import (BARE, FULL, NO_WAY, ROOT, SIGNS, Telling, chance_address, chance_text, of_other_kinds,
                     shown_addresses)
from slow import address_writings, place_of, slowly_gone
from waymark.addresses import is_address
from waymark.errors import NoAddress
from waymark.plain import alike, plain, plain_text
from waymark.reading import read
from waymark.resolving import resolved
from waymark.showing import show

GREAT = "ABCDEFGHIJKLMNOPQRSTUVWXYZ"
SMALL = "abcdefghijklmnopqrstuvwxyz"


def small(text):
    return "".join(SMALL[GREAT.index(sign)] if sign in GREAT else sign for sign in text)


def slowly_plain(address):
    scheme, house, door, way, question, mark = address
    return (small(scheme), house if house is None else small(house), door, slowly_gone(way), question, mark)


class PlainForms(Telling):
    def test_great_letters_in_the_scheme_and_in_the_house(self):
        self.same(plain(read("HTTP://Ex.Org:80/A")), read("http://ex.org:80/A"))
        for great, letter in zip(GREAT, SMALL):
            self.same(plain((great, great, None, ROOT, None, None)), (letter, letter, None, ROOT, None, None))
            self.same(plain((letter, letter, None, ROOT, None, None)), (letter, letter, None, ROOT, None, None))

    def test_signs_that_are_no_letters(self):
        for sign in SIGNS:
            self.same(plain(("", sign, None, ROOT, None, None)), ("", small(sign), None, ROOT, None, None))
        self.same(plain(("A1b2", "@[`{_Z-9", 5, ROOT, None, None)), ("a1b2", "@[`{_z-9", 5, ROOT, None, None))

    def test_without_a_scheme_or_a_house(self):
        self.same(plain(BARE), BARE)
        self.same(plain(("", "H", None, ROOT, None, None)), ("", "h", None, ROOT, None, None))
        self.same(plain(("X", None, None, ROOT, None, None)), ("x", None, None, ROOT, None, None))

    def test_all_else_as_it_is(self):
        address = ("x", "h", 65535, (True, ("A", "Bc"), False), (("Q", "R"), ("S", None), (".", "..")), "M/../N")
        self.same(plain(address), address)
        for question, mark in ((None, None), ((), ""), ((("A", ""),), "A")):
            self.same(plain(("", None, None, NO_WAY, question, mark)), ("", None, None, NO_WAY, question, mark))

    def test_the_way_gone(self):
        told = {"x:/A/../B": "x:/B", "x:/a/.": "x:/a/", "a/..": "./", "../a/./B": "../a/B", "/..": "/", "": "",
                ".": "./", "//h/a/~2e~2E/b": "//h/b"}
        for text, due in told.items():
            self.same(plain(read(text)), read(due), text)

    def test_addresses_of_every_kind(self):
        chance = random.Random(23)
        addresses = [address for address, text in shown_addresses()]
        for address in addresses + [chance_address(chance) for turn in range(1500)]:
            told = plain(address)
            self.same(told, slowly_plain(address), address)
            self.assertTrue(is_address(told), address)
            self.same(plain(told), told, address)

    def test_long_ones(self):
        address = ("X", "H" * 60, None, (True, ("A", "..", "B") * 133, True), (("A", "B"),) * 400, None)
        self.same(plain(address), ("x", "h" * 60, None, (True, ("B",) * 133, True), address[4], None))


class PlainTexts(Telling):
    def test_ordinary_ones(self):
        told = {"": "", "X:": "x:/", "//H": "//h/", "HTTP://A.B:80/x/../Y?Q=1&r#M": "http://a.b:80/Y?Q=1&r#M",
                "a/..": "./", "a/./b": "a/b", "~41": "A", "X://~41~2f": "x://a~2f/", "/!": "/~21",
                "?a/b=:": "?a~2fb=~3a", "#&": "#~26", "/~2e~2e/a": "/a", "x:/~7E": "x:/~7e", "?": "?", "#": "#"}
        for text, due in told.items():
            self.same(plain_text(text), due, text)
            self.same(plain_text(due), due, text)

    def test_texts_that_write_the_same_address(self):
        for address in (("Ab", "H", 1, (True, ("a!", "."), False), None, None),
                        ("", None, None, NO_WAY, (("/", "b"),), ":"),
                        ("", None, None, (False, ("..", "@"), True), (), ""), ("", "~B", None, ROOT, None, None)):
            texts = address_writings(address)
            self.assertGreater(len(texts), 3)
            self.assertEqual({plain_text(text) for text in texts}, {show(slowly_plain(address))})

    def test_the_plain_text_of_a_plain_text(self):
        chance = random.Random(24)
        for turn in range(1000):
            text = plain_text(show(chance_address(chance)))
            self.same(plain_text(text), text)

    def test_refused_as_reading_is(self):
        for text, place in (("a//b", 2), ("x:b", 2), ("//h:65536", 8), ("a~4", 3), ("a~8f", 2), ("?a&", 3), ("\n", 0)):
            self.same(self.refused(NoAddress, plain_text, text).at, place)
        for thing in of_other_kinds() + [None]:
            self.same(self.refused(NoAddress, plain_text, thing).at, 0)
        chance = random.Random(25)
        for turn in range(500):
            text = chance_text(chance, 0, 6, "aB:/?#&=~2.")
            if place_of(text) is None:
                self.same(plain_text(text), show(slowly_plain(read(text))))
            else:
                self.same(self.refused(NoAddress, plain_text, text).at, place_of(text), text)


class Alike(Telling):
    def test_alike(self):
        for one, other in (("X:/a", "x:/a"), ("x://H/", "x://h"), ("x:/a/../b", "x:/b"), ("a/.", "a/"), ("", ""),
                           ("//h/a/..", "//H"), ("a/..", "."), ("/..", "/"), ("?a", "?a")):
            self.assertIs(alike(read(one), read(other)), True, (one, other))
            self.assertIs(alike(read(other), read(one)), True, (one, other))

    def test_unlike(self):
        for one, other in (("x:/a", "x:/A"), ("x:/a", "x:/a/"), ("x:", "y:"), ("//h", "//g"), ("//h", "//h:0"),
                           ("?a", "?A"), ("?a", "?a="), ("", "?"), ("", "#"), ("#a", "#A"), ("a", "/a"), ("", "."),
                           ("x:", "x://h"), ("?a&b", "?b&a"), ("x:/a/..", "x:/a"), ("//h:1", "//h:2")):
            self.assertIs(alike(read(one), read(other)), False, (one, other))
            self.assertIs(alike(read(other), read(one)), False, (one, other))

    def test_just_where_the_plain_forms_are_the_same(self):
        addresses = [address for address, text in shown_addresses()][::17]
        addresses += [plain(address) for address in addresses]
        for one in addresses[::3]:
            for other in addresses:
                self.assertIs(alike(one, other), slowly_plain(one) == slowly_plain(other))

    def test_resolving_and_bringing_to_a_plain_form_in_either_order(self):
        chance = random.Random(26)
        for turn in range(3000):
            base, address = chance_address(chance, True), chance_address(chance)
            self.same(plain(resolved(base, address)), resolved(plain(base), plain(address)), (base, address))
        for base in ("X://H/A/b?Q", "X:/A/../b/.", "X:"):
            for text in ("", "..", "a/..", ".", "A", "../../..", "//G/.", "/..", "Y:/a/..", "?Q", "#M", "a/../.."):
                one, other = read(base), read(text)
                self.same(plain(resolved(one, other)), resolved(plain(one), plain(other)), (base, text))


class AskedAgain(Telling):
    def test_the_same_is_told(self):
        for turn in range(3):
            self.same(plain(FULL), FULL)
            self.same(plain_text("X:/a/.."), "x:/")
            self.assertIs(alike(FULL, BARE), False)


if __name__ == "__main__":
    unittest.main()
