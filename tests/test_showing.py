"""Points [8], [9] and [11], and what [2] and [3] ask of waymark.showing."""

import random
import unittest

from samples import BARE, DOOR, FULL, PLAIN, ROOT, SIGNS, WAY, Telling, chance_address, shown_addresses, with_part
from waymark.addresses import is_address
from waymark.showing import show


def pair_or_itself(sign):
    return sign if sign in PLAIN else "~" + format(ord(sign), "02x")


class Shown(Telling):
    def test_each_part_there_and_left_out(self):
        for address, text in shown_addresses():
            self.same(show(address), text, address)

    def test_told_in_the_document(self):
        self.same(show(("x", None, None, ROOT, None, None)), "x:/")
        self.same(show(("", "h", None, ROOT, None, None)), "//h/")

    def test_ordinary_ones(self):
        self.same(show(FULL), "http://a.b:80/x/y?q=1&r#m")
        self.same(show(BARE), "")

    def test_the_way_is_always_written(self):
        for scheme, house in (("x", None), ("", "h"), ("x", "h")):
            for question, mark, behind in ((None, None, ""), ((), None, "?"), (None, "", "#")):
                address = (scheme, house, None, ROOT, question, mark)
                self.assertTrue(show(address).endswith("/" + behind), address)

    def test_a_value_none_and_one_without_signs(self):
        told = {(("a", None),): "?a", (("a", ""),): "?a=", (("a", None), ("b", "")): "?a&b=", (): "?"}
        for question, text in told.items():
            self.same(show(("", None, None, (False, (), False), question, None)), text)

    def test_a_mark_none_and_one_without_signs(self):
        self.same(show(with_part(BARE, 5, None)), "")
        self.same(show(with_part(BARE, 5, "")), "#")

    def test_the_scheme_as_it_is(self):
        for scheme in ("a", "Z", "aB3dE6gH", "z9"):
            self.same(show((scheme, None, None, ROOT, None, None)), scheme + ":/")

    def test_the_doors_figures(self):
        for door in (0, 1, 9, 10, 80, 443, 999, 1000, 8080, 9999, 10000, 65534, 65535):
            self.same(show(with_part(FULL, DOOR, door)), f"http://a.b:{door}/x/y?q=1&r#m")
        self.same(show(with_part(FULL, DOOR, None)), "http://a.b/x/y?q=1&r#m")

    def test_dots_as_they_are(self):
        self.same(show(with_part(FULL, WAY, (True, ("..", ".", "a"), True))), "http://a.b:80/.././a/?q=1&r#m")


class EachSign(Telling):
    def test_in_each_place(self):
        self.assertEqual(len(SIGNS), 94)
        for sign in SIGNS:
            text = pair_or_itself(sign)
            self.same(show(("x", sign, None, ROOT, None, None)), f"x://{text}/")
            self.same(show(("", None, None, (False, (sign,), False), None, None)), text)
            self.same(show(("", None, None, (True, ("a", sign + "b"), True), None, None)), f"/a/{text}b/")
            self.same(show(("", None, None, (False, (), False), ((sign, None),), None)), f"?{text}")
            self.same(show(("", None, None, (False, (), False), (("a", sign),), None)), f"?a={text}")
            self.same(show(with_part(BARE, 5, sign)), f"#{text}")

    def test_all_at_once(self):
        text = "".join(pair_or_itself(sign) for sign in SIGNS)
        address = ("x", SIGNS[:60], 1, (True, (SIGNS, SIGNS), False), ((SIGNS, SIGNS),), SIGNS)
        house = "".join(pair_or_itself(sign) for sign in SIGNS[:60])
        self.same(show(address), f"x://{house}:1/{text}/{text}?{text}={text}#{text}")


class Unlike(Telling):
    def test_unlike_addresses_are_shown_unlike(self):
        addresses = [address for address, text in shown_addresses()]
        self.assertEqual(len({show(address) for address in addresses}), len(addresses))
        self.assertGreater(len(addresses), 1000)

    def test_addresses_that_lie_near(self):
        addresses = {
            ("", None, None, (False, ("a/b",), False), None, None),
            ("", None, None, (False, ("a", "b"), False), None, None),
            ("", None, None, (False, ("a:",), False), None, None), ("a", None, None, ROOT, None, None),
            ("", None, None, (True, ("h",), False), None, None), ("", "h", None, ROOT, None, None),
            ("", "h:1", None, ROOT, None, None), ("", "h", 1, ROOT, None, None),
            ("", None, None, (False, ("?a",), False), None, None),
            ("", None, None, (False, (), False), (("a", None),), None),
            ("", None, None, (False, (), False), (("a=", None),), None),
            ("", None, None, (False, (), False), (("a", ""),), None),
            ("", None, None, (False, (), False), (("a&b", None),), None),
            ("", None, None, (False, (), False), (("a", None), ("b", None)), None),
            ("", None, None, (False, (), False), (("a#", None),), None),
            ("", None, None, (False, (), False), (("a", None),), ""),
            ("", None, None, (False, ("~2e",), False), None, None),
            ("", None, None, (False, (".",), False), None, None),
        }
        self.assertEqual(len({show(address) for address in addresses}), len(addresses))

    def test_addresses_of_chance(self):
        chance = random.Random(11)
        addresses = {chance_address(chance) for turn in range(2000)}
        self.assertEqual(len({show(address) for address in addresses}), len(addresses))


class Long(Telling):
    def test_four_hundred_steps_or_pairs(self):
        steps = ("ab/",) * 400
        self.same(show(("x", None, None, (True, steps, False), None, None)), "x:" + "/ab~2f" * 400)
        self.same(show(("", None, None, (False, steps, True), None, None)), "ab~2f/" * 400)
        pairs = (("a", "b "),) * 400
        self.same(show(("", None, None, (False, (), False), pairs, None)), "?" + "&".join(["a=b~20"] * 400))
        self.same(show(("", None, None, (False, (), False), (("a", None),) * 400, None)), "?" + "&".join("a" * 400))

    def test_two_thousand_signs(self):
        self.same(show(with_part(BARE, 5, "~" * 2000)), "#" + "~7e" * 2000)
        self.same(show(("", None, None, (False, ("/" * 2000,), False), None, None)), "~2f" * 2000)


class AskedAgain(Telling):
    def test_the_same_is_told(self):
        for turn in range(3):
            self.same(show(FULL), "http://a.b:80/x/y?q=1&r#m")
            self.same(show(BARE), "")
        self.assertTrue(is_address(FULL))


if __name__ == "__main__":
    unittest.main()
