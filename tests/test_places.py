"""Point [14]: what is no address's text is refused, with the place at which no address goes on."""

import itertools
import random
import unittest

from samples import FULL, SIGNS, Telling, chance_address, chance_text, of_other_kinds, repr_of, shown_addresses
from slow import goes_on, place_of, writes
from waymark.addresses import is_address
from waymark.errors import NoAddress, NoBase, NoName, NoPattern, NoRow, NoValue, WayError
from waymark.reading import read
from waymark.showing import show


class Placing(Telling):
    def at(self, text, place):
        """The text is refused at the place, or where that is None it is read."""
        try:
            address = read(text)
        except NoAddress as error:
            self.assertIs(error.__class__, NoAddress)
            self.same(error.at, place, repr_of(text))
        else:
            self.assertIsNone(place, text)
            self.assertTrue(is_address(address), text)


class TheRefusal(Placing):
    def test_its_class(self):
        error = self.refused(NoAddress, read, "a//b")
        self.assertIsInstance(error, WayError)
        self.assertIsInstance(error, ValueError)
        for other in (NoBase, NoPattern, NoValue, NoName, NoRow):
            self.assertNotIsInstance(error, other)

    def test_told_in_the_document(self):
        for text, place in (("a//b", 2), ("x:b", 2), ("//h:65536", 8), ("a~4", 3), ("a~8f", 2), ("?a&", 3)):
            self.at(text, place)

    def test_what_is_no_text(self):
        for thing in of_other_kinds() + [None, (), ("a",), FULL, ["x:/"], {"x:/": 1}]:
            self.at(thing, 0)

    def test_what_is_no_sign(self):
        for sign in "\n\t\r\0\x1f\x7f":
            for before in ("", "a", "/", "a/", "x:", "x:/", "//", "//h", "//h:", "//h:8", "//h/", "?", "?a", "?a=",
                           "?a&", "#", "#m", "a~", "a~2"):
                self.at(before + sign, len(before))
                self.at(before + sign + "a", len(before))
            self.at("a//" + sign, 2)


class Schemes(Placing):
    def test_nine_signs(self):
        self.at("abcdefgh:", None)
        self.at("abcdefghi:", 9)
        self.at("abcdefghi:/a", 9)
        self.at("a12345678:", 9)
        self.at("a" * 100 + ":", 100)

    def test_a_figure_or_another_sign_first(self):
        self.at("1:", 1)
        self.at("1a:/", 2)
        self.at("9abc://h", 4)
        self.at(":", 0)
        self.at(":a", 0)
        self.at("-a:", 2)
        self.at("~61:", 3)

    def test_a_sign_that_a_scheme_has_not(self):
        for sign in SIGNS:
            if sign not in "/?#:~" and not sign.isalnum():
                text = "a" + sign + "b:"
                self.at(text, place_of(text))
                self.assertIn(place_of(text), (1, 3))
        self.at("a~62:", 4)
        self.at("a/b:", 3)
        self.at("/a:", 2)

    def test_letters_and_figures_without_a_colon(self):
        for text in ("a", "abcdefgh", "abcdefghi", "1a", "a1"):
            self.at(text, None)
            self.at(text + "~", len(text) + 1)

    def test_behind_a_scheme(self):
        for sign in SIGNS:
            self.at("x:" + sign, None if sign in "/?#" else 2)
        self.at("x:y:", 2)
        self.at("x::", 2)
        self.at("x://h:/", 6)
        self.at("x://", 4)
        self.at("x:///", 4)
        self.at("x:/a//", 5)


class Houses(Placing):
    def test_none_behind_the_slashes(self):
        self.at("//", 2)
        for sign in SIGNS:
            stands = sign.isalnum() or sign in "-_."
            self.at("//" + sign, None if stands else 3 if sign == "~" else 2)
            self.at("x://" + sign, None if stands else 5 if sign == "~" else 4)

    def test_sixty_and_sixty_one_signs(self):
        for one in ("h", "~2f", "~7E", "1"):
            self.at("//" + one * 60, None)
            self.at("//" + one * 60 + "/", None)
            self.at("//" + one * 60 + ":1", None)
            self.at("//" + one * 60 + one, 2 + 60 * len(one))
            self.at("//" + one * 60 + "~", 2 + 60 * len(one))
            self.at("//" + one * 60 + "h:1", 2 + 60 * len(one))
            self.at("x://" + one * 61, 4 + 60 * len(one))
        self.at("//" + "h~20" * 30, None)
        self.at("//" + "h~20" * 30 + "h", 122)
        self.at("//" + "h~20" * 29 + "h~2", 121)
        self.at("//" + "h" * 59 + "~41", None)
        self.at("//" + "h" * 59 + "~4", 63)

    def test_a_sign_behind(self):
        for sign in SIGNS:
            due = None if sign.isalnum() or sign in "-_./?#" else 4 if sign in "~:" else 3
            self.at("//h" + sign, due)


class Doors(Placing):
    def test_without_figures(self):
        self.at("//h:", 4)
        for sign in SIGNS:
            self.at("//h:" + sign, None if sign.isdigit() else 4)
        self.at("//h:/", 4)
        self.at("//h:?a", 4)
        self.at("//h:~31", 4)

    def test_a_nought_ahead_of_others(self):
        self.at("//h:0", None)
        for figure in "0123456789":
            self.at("//h:0" + figure, 5)
        self.at("//h:00080", 5)
        self.at("x://h:080/", 7)

    def test_the_last_door(self):
        self.at("//h:65535", None)
        self.at("//h:65536", 8)
        self.at("//h:65540", 8)
        self.at("//h:66000", 8)
        self.at("//h:70000", 8)
        self.at("//h:99999", 8)
        self.at("//h:6553", None)
        self.at("//h:9999", None)
        self.at("//h:59999", None)

    def test_six_figures(self):
        self.at("//h:123456", 9)
        self.at("//h:100000", 9)
        self.at("//h:655350", 9)
        self.at("//h:655360", 8)
        self.at("//h:999999", 8)
        self.at("//h:" + "1" * 60, 9)

    def test_figures_one_by_one(self):
        near_the_edges = (range(0, 2000), range(6500, 6600), range(9990, 10010), range(64900, 66100))
        for door in itertools.chain(*near_the_edges):
            for text in (f"//h:{door}", f"//h:{door}0", f"//h:0{door}"):
                self.at(text, place_of(text))

    def test_a_sign_behind(self):
        for door in ("0", "8", "80", "65535"):
            for sign in SIGNS:
                text = "//h:" + door + sign
                self.at(text, place_of(text))
        self.at("//h:8a", 5)
        self.at("//h:8:", 5)
        self.at("//h:8~", 5)


class Pairs(Placing):
    PLACES = ("", "a", "/", "a/", "x:/", "//", "//h", "?", "?a", "?a=", "?a&", "#", "#m")

    def test_a_mark_of_a_pair_at_the_end(self):
        for before in self.PLACES:
            self.at(before + "~", len(before) + 1)

    def test_one_sign_behind_it(self):
        for before in self.PLACES:
            for sign in SIGNS:
                self.at(before + "~" + sign, len(before) + (2 if sign in "234567" else 1))

    def test_two_signs_behind_it(self):
        for before in self.PLACES:
            for high, low in itertools.product("234567", SIGNS):
                is_pair = low in "0123456789abcdefABCDEF" and high + low.lower() not in ("25", "7f")
                self.at(before + "~" + high + low, None if is_pair else len(before) + 2)

    def test_a_first_figure_with_which_no_signs_number_goes_on(self):
        for before in self.PLACES:
            for figures in ("00", "1f", "1F", "80", "8f", "9a", "a0", "A0", "ff", "FF", "g0", "~7e"):
                self.at(before + "~" + figures, len(before) + 1)

    def test_where_no_pair_may_stand(self):
        self.at("x:~41", 2)
        self.at("//h:~38", 4)
        self.at("//h:8~38", 5)


class Slashes(Placing):
    def test_two_where_no_step_may_be_without_signs(self):
        for text, place in (("a//", 2), ("a/b//c", 4), ("/a//", 3), ("x:/a//b", 5), ("//h//", 4), ("//h/a//", 6),
                            ("///", 2), ("x:///a", 4), ("////", 2), ("//h:1//", 6), ("/a/b///", 5)):
            self.at(text, place)

    def test_other_signs_behind_a_way(self):
        for before in ("a", "a/", "/", "/a", "/a/", "x:/", "x:/a/", "//h/", "//h/a"):
            for sign in SIGNS:
                text = before + sign
                self.at(text, place_of(text))


class Questions(Placing):
    def test_a_name_without_signs(self):
        for text, place in (("?=", 1), ("?&", 1), ("?=a", 1), ("?a&", 3), ("?a&&", 3), ("?a&=", 3), ("?a=&", 4),
                            ("?a=b&", 5), ("?a=b&=c", 5), ("?a&#", 3), ("?&a", 1), ("a?a&b&", 6)):
            self.at(text, place)

    def test_a_sign_that_is_not_free(self):
        for text, place in (("?a==", 3), ("?a=b=c", 4), ("?a=b==", 4), ("?a b", 2), ("?a=b c", 4), ("?[", 1),
                            ("?a##", 3)):
            self.at(text, place)

    def test_marks(self):
        for text, place in (("##", 1), ("#a#", 2), ("#a b", 2), ("a#b#c", 3), ("#~2", 3), ("?a#b#", 4)):
            self.at(text, place)


class Slowly(Placing):
    """The place held against the slow reckoning."""

    def walk(self, signs, most, begin=""):
        """Each text of so many signs at most that begins with one that may be gone on from."""
        counted = 0
        beginnings = [begin]
        while beginnings:
            before = beginnings.pop()
            for sign in signs:
                text = before + sign
                counted += 1
                if not goes_on(text):
                    for behind in ("", "a", "/", "~", "#"):
                        self.at(text + behind, len(before))
                    continue
                self.at(text, None if writes(text) else len(text))
                if len(text) < most:
                    beginnings.append(text)
        return counted

    def test_all_parts(self):
        self.assertGreater(self.walk("a1:/?#", 6), 5000)

    def test_pairs(self):
        self.walk("a/~2578Ff", 4)
        self.walk("~257fFg", 4, "//h")
        self.walk("~257fFg:", 3, "x:/")

    def test_questions_and_marks(self):
        self.walk("a&=#?/", 6, "?")
        self.walk("a&=#~2", 4, "/?")

    def test_all_signs(self):
        for begin in ("", "a", "/", "x:", "x:/", "//", "//h", "//h:", "//h:1", "//h/", "?", "?a", "?a=", "?a&", "#"):
            self.walk(SIGNS, len(begin) + 1, begin)
        self.walk(SIGNS, 2)

    def test_the_slow_reckoning_itself(self):
        for text, place in (("a//b", 2), ("x:b", 2), ("//h:65536", 8), ("a~4", 3), ("a~8f", 2), ("?a&", 3), ("", None)):
            self.assertEqual(place_of(text), place)


class NearAddresses(Placing):
    def texts(self):
        chance = random.Random(14)
        told = [text for address, text in shown_addresses()]
        texts = chance.sample(told, 60) + [show(chance_address(chance)) for turn in range(60)]
        return texts + ["http://a.b:80/x/y?q=1&r#m", "abcdefgh://h~20:65535/~2e/b/?a=b&c#~7e"]

    def test_each_beginning(self):
        for text in self.texts():
            for count in range(len(text) + 1):
                self.at(text[:count], None if writes(text[:count]) else count)

    def test_a_sign_put_in_or_set_over_or_left_out(self):
        chance = random.Random(15)
        for text in self.texts():
            for place in range(len(text) + 1):
                sign = chance.choice(SIGNS + "\n\t:/?#&=~")
                for other in (text[:place] + sign + text[place:], text[:place] + sign + text[place + 1:],
                              text[:place] + text[place + 1:]):
                    self.at(other, place_of(other))

    def test_texts_of_chance(self):
        chance = random.Random(16)
        for turn in range(3000):
            text = chance_text(chance, 0, 9, "abx12:/?#&=~~//.0e\n")
            self.at(text, place_of(text))

    def test_long_texts(self):
        self.at("a/" * 1000, None)
        self.at("a/" * 999 + "/a", 1998)
        self.at("a" * 1999 + ":", 1999)
        self.at("a" * 1999 + "~", 2000)
        self.at("?" + "a=b&" * 499, 1997)
        self.at("#" + "~2f" * 666 + "~", 2000)
        self.at("//h/" + "~41" * 665 + "~", 2000)
        self.at("//" + "a" * 1998, 62)
        self.at("/" * 2000, 2)


if __name__ == "__main__":
    unittest.main()
