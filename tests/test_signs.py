"""Points [4], [5] and [6], and what [2] asks of waymark.signs."""

import itertools
import random
import string
import unittest

from waymark.signs import pair_of, sign_of, undone, written

SIGNS = [chr(number) for number in range(32, 127) if number != 37]
PLAIN = string.ascii_letters + string.digits + "-_."
STEP_FREE = "!$'()*,;@&=+"
ASKED_FREE = "!$'()*,;@+/?:"
FREES = ("", "/", "!", STEP_FREE, ASKED_FREE, PLAIN, " ", "".join(sign for sign in SIGNS if sign != "~"))


def told_undone(text, free):
    """Point [6] by another way: cut the text at each `~`."""
    first, *others = text.split("~")
    if any(sign not in PLAIN + free for sign in first):
        return None
    told = first
    for other in others:
        figures, behind = other[:2], other[2:]
        if len(figures) < 2 or any(figure not in string.hexdigits for figure in figures):
            return None
        number = int(figures, 16)
        if not 32 <= number <= 126 or number == 37:
            return None
        if any(sign not in PLAIN + free for sign in behind):
            return None
        told += chr(number) + behind
    return told


class PairOf(unittest.TestCase):
    def test_the_pair_of_each_sign(self):
        self.assertEqual(len(SIGNS), 94)
        for sign in SIGNS:
            with self.subTest(sign=sign):
                self.assertEqual(pair_of(sign), "~" + format(ord(sign), "02x"))

    def test_told_in_the_document(self):
        self.assertEqual(pair_of(" "), "~20")
        self.assertEqual(pair_of("~"), "~7e")

    def test_small_figures(self):
        self.assertEqual([pair_of(sign) for sign in "*/:JOjo"], ["~2a", "~2f", "~3a", "~4a", "~4f", "~6a", "~6f"])

    def test_no_two_signs_have_the_same_pair(self):
        self.assertEqual(len({pair_of(sign) for sign in SIGNS}), 94)


class SignOf(unittest.TestCase):
    def test_each_sign_by_small_and_by_great_figures(self):
        for sign in SIGNS:
            with self.subTest(sign=sign):
                self.assertEqual(sign_of(format(ord(sign), "02x")), sign)
                self.assertEqual(sign_of(format(ord(sign), "02X")), sign)

    def test_small_and_great_mixed(self):
        for high, low in itertools.product("0123456789abcdefABCDEF", repeat=2):
            self.assertEqual(sign_of(high + low), sign_of((high + low).lower()))

    def test_each_number(self):
        for number in range(256):
            with self.subTest(number=number):
                no_sign = number < 32 or number > 126 or number == 37
                self.assertEqual(sign_of(format(number, "02x")), None if no_sign else chr(number))

    def test_the_edges(self):
        told = {"00": None, "1f": None, "1F": None, "20": " ", "24": "$", "25": None, "26": "&", "7d": "}",
                "7e": "~", "7E": "~", "7f": None, "7F": None, "80": None, "ff": None, "FF": None}
        for figures, sign in told.items():
            with self.subTest(figures=figures):
                self.assertEqual(sign_of(figures), sign)

    def test_two_signs_that_are_no_figures(self):
        for figures in ("  ", " 4", "4 ", "+4", "-4", "4+", "0x", "x4", "4g", "4G", "g4", "G4", "4z", "4Z", "zz",
                        "~~", "~4", "4~", "4_", "_4", "4.", "/4", "4/", ":4", "4:", "@4", "4@", "`4", "4`"):
            with self.subTest(figures=figures):
                self.assertIsNone(sign_of(figures))

    def test_every_two_signs(self):
        for high, low in itertools.product(SIGNS, repeat=2):
            both_figures = high in string.hexdigits and low in string.hexdigits
            number = int(high + low, 16) if both_figures else 0
            no_sign = number < 32 or number > 126 or number == 37
            self.assertEqual(sign_of(high + low), None if no_sign else chr(number), high + low)

    def test_undoes_the_pair_of_each_sign(self):
        for sign in SIGNS:
            self.assertEqual(sign_of(pair_of(sign)[1:]), sign)


class Written(unittest.TestCase):
    def test_plain_signs_as_themselves(self):
        self.assertEqual(written(PLAIN), PLAIN)

    def test_all_other_signs_by_their_pairs(self):
        others = [sign for sign in SIGNS if sign not in PLAIN]
        self.assertEqual(len(others), 94 - 65)
        for sign in others:
            with self.subTest(sign=sign):
                self.assertEqual(written(sign), pair_of(sign))

    def test_sign_by_sign(self):
        self.assertEqual(written("a b~c"), "a~20b~7ec")
        self.assertEqual(written("~7e"), "~7e7e")
        self.assertEqual(written("..//.."), "..~2f~2f..")
        for one, other in itertools.product(SIGNS, repeat=2):
            self.assertEqual(written(one + other), written(one) + written(other))

    def test_the_text_without_signs(self):
        self.assertEqual(written(""), "")

    def test_long_texts(self):
        self.assertEqual(written("a" * 2000), "a" * 2000)
        self.assertEqual(written("~" * 2000), "~7e" * 2000)
        self.assertEqual(written("a " * 1000), "a~20" * 1000)


class Undone(unittest.TestCase):
    def test_nothing_free(self):
        self.assertEqual(undone(PLAIN, ""), PLAIN)
        self.assertEqual(undone("a~20b~7Ec", ""), "a b~c")
        for sign in SIGNS:
            if sign not in PLAIN:
                with self.subTest(sign=sign):
                    self.assertIsNone(undone(sign, ""))
                    self.assertIsNone(undone("a" + sign, ""))
                    self.assertIsNone(undone(sign + "a", ""))

    def test_free_left_out_is_nothing_free(self):
        for text in ("", "abc", "a~2fb", "a/b", "a b", "~", "~2", "~25", "!"):
            with self.subTest(text=text):
                self.assertEqual(undone(text), undone(text, ""))
        self.assertIsNone(undone("a/b"))
        self.assertEqual(undone("a~2fb"), "a/b")

    def test_some_signs_free(self):
        self.assertEqual(undone("a/b?c", "/?"), "a/b?c")
        self.assertEqual(undone("a/b~2F~3fc", "/?"), "a/b/?c")
        self.assertEqual(undone(STEP_FREE, STEP_FREE), STEP_FREE)
        self.assertEqual(undone("a=b", free="="), "a=b")

    def test_each_sign_free_alone(self):
        for free in SIGNS:
            if free == "~":
                continue
            for sign in SIGNS:
                stands = sign in PLAIN or sign == free
                self.assertEqual(undone(sign, free), sign if stands else None, (sign, free))

    def test_a_sign_neither_plain_nor_free(self):
        for text in ("a b", "/", "a&b", "a~20/"):
            with self.subTest(text=text):
                self.assertIsNone(undone(text, "!?"))
        self.assertIsNone(undone("/:", STEP_FREE))
        self.assertIsNone(undone("&", ASKED_FREE))

    def test_what_is_no_sign_is_not_plain(self):
        for text in ("\n", "a\n", "\t", "a\tb", "~2\n", "~\n20", "~20\n"):
            with self.subTest(text=text):
                self.assertIsNone(undone(text, STEP_FREE))

    def test_no_pair_behind_the_mark_of_a_pair(self):
        for text in ("~", "a~", "~2", "a~2", "a~20~", "~~", "~~20", "~2~20", "~2g", "~g2", "~G0", "~ 4", "~4 ",
                     "~+4", "~-4", "~0x4", "~25", "~1f", "~1F", "~7f", "~80", "~ff", "~00a", "a~25b"):
            for free in FREES:
                with self.subTest(text=text, free=free):
                    self.assertIsNone(undone(text, free))

    def test_a_pair_is_read_from_left_to_right(self):
        self.assertEqual(undone("~7e20"), "~20")
        self.assertEqual(undone("~7e7e7e"), "~7e7e")
        self.assertEqual(undone("~41~42~43"), "ABC")
        self.assertEqual(undone("~414"), "A4")

    def test_a_plain_or_free_sign_by_its_pair(self):
        for sign in SIGNS:
            for free in FREES:
                self.assertEqual(undone(pair_of(sign), free), sign)
                self.assertEqual(undone("~" + pair_of(sign)[1:].upper(), free), sign)

    def test_the_text_without_signs(self):
        for free in FREES:
            self.assertEqual(undone("", free), "")

    def test_short_texts_one_by_one(self):
        for count in range(5):
            for signs in itertools.product("~27eEg/ ", repeat=count):
                text = "".join(signs)
                for free in ("", "/"):
                    self.assertEqual(undone(text, free), told_undone(text, free), (text, free))

    def test_what_is_written_is_undone(self):
        chance = random.Random(4)
        texts = ["", "~", "~7e", "a~b", " ", "".join(SIGNS), "".join(reversed(SIGNS))]
        texts += ["".join(chance.choices(SIGNS, k=chance.randrange(60))) for turn in range(300)]
        for text in texts:
            for free in FREES:
                self.assertEqual(undone(written(text), free), text, (text, free))

    def test_long_texts(self):
        self.assertEqual(undone("a" * 2000), "a" * 2000)
        self.assertEqual(undone("~7e" * 666), "~" * 666)
        self.assertEqual(undone(written("/" * 2000)), "/" * 2000)
        self.assertEqual(undone("/" * 2000, "/"), "/" * 2000)
        self.assertIsNone(undone("a" * 1999 + "~"))
        self.assertIsNone(undone("a" * 1999 + "/"))


class AskedAgain(unittest.TestCase):
    def test_the_same_is_told(self):
        for turn in range(3):
            self.assertEqual(pair_of("/"), "~2f")
            self.assertEqual(sign_of("2F"), "/")
            self.assertIsNone(sign_of("25"))
            self.assertEqual(written("a/b"), "a~2fb")
            self.assertEqual(undone("a/b", "/"), "a/b")
            self.assertIsNone(undone("a/b"))


if __name__ == "__main__":
    unittest.main()
