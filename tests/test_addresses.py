"""Point [7], and what [2] asks of waymark.addresses."""

import copy
import itertools
import unittest

from samples import (BARE, DOOR, FULL, HOUSE, MARK, NO_SIGNS, QUESTION, SCHEME, SIGNS, WAY, Hostile, of_other_kinds,
                     repr_of, with_part)
from waymark.addresses import is_address, is_whole


class Asking(unittest.TestCase):
    def tell(self, thing, told):
        self.assertIs(is_address(thing), told, repr_of(thing))

    def tell_part(self, place, part, told, address=FULL):
        self.tell(with_part(address, place, part), told)


class WhatIsOne(Asking):
    def test_addresses_of_every_kind(self):
        schemes = ("", "x", "Http2", "abcdefgh")
        houses = ((None, None), ("h", None), ("h", 0), (" ~/:", 65535), ("h" * 60, 80))
        ways = ((False, (), False), (True, (), True), (True, ("a",), True), (True, ("a", ".."), False),
                (False, ("a",), False), (False, (".", "b/c"), True))
        questions = (None, (), (("a", None),), (("a", ""), ("a", ""), ("b", "=&#")))
        marks = (None, "", "m", "#/? ~")
        counted = 0
        for scheme, (house, door), way, question, mark in itertools.product(schemes, houses, ways, questions, marks):
            told = way[0] or (scheme == "" and house is None)
            self.tell((scheme, house, door, way, question, mark), told)
            counted += told
        self.assertGreater(counted, 1000)

    def test_each_sign_stands_in_each_text(self):
        for sign in SIGNS:
            way = (True, (sign, "a" + sign), False)
            self.tell(("x", sign, 1, way, ((sign, sign), ("a", sign)), sign), True)

    def test_long_ones(self):
        self.tell(("x", "h", None, (True, ("abcd",) * 400, True), None, None), True)
        self.tell(("x", "h", None, (True, (), True), (("ab", "cd"),) * 400, None), True)
        self.tell(("x", "h", None, (True, ("a" * 1990,), True), None, None), True)
        self.tell(("x", None, None, (True, (), True), (("a" * 1990, None),), None), True)
        self.tell(("x", None, None, (True, (), True), None, "m" * 1990), True)
        self.tell(("x", "h", None, (True, ("abcd",) * 399 + ("",), True), None, None), False)

    def test_somewhat_longer_ones_are_not_refused(self):
        self.tell(("x", "h", None, (True, ("a",) * 450, True), (("a", None),) * 450, "m" * 2100), True)


class TheTuple(Asking):
    def test_other_kinds(self):
        for thing in of_other_kinds() + [None, "", "x:/", "abcdef", ()]:
            self.tell(thing, False)

    def test_a_list_in_its_stead(self):
        self.tell(list(FULL), False)
        self.tell(list(BARE), False)

    def test_a_part_too_few_or_too_many(self):
        for address in (FULL, BARE):
            for count in range(6):
                self.tell(address[:count], False)
            self.tell(address[1:], False)
            self.tell(address + (None,), False)
            self.tell((None,) + address, False)
            self.tell((address,), False)

    def test_other_kinds_in_the_stead_of_each_part(self):
        for address in (FULL, BARE):
            self.tell(address, True)
        for place in range(6):
            for thing in of_other_kinds():
                if place == DOOR and not isinstance(thing, bool) and isinstance(thing, int):
                    continue
                self.tell_part(place, thing, False)
                self.tell_part(place, thing, False, BARE)


class TheScheme(Asking):
    def test_letters_and_figures_a_letter_first(self):
        for scheme in ("a", "z", "A", "Z", "http", "HTTP", "h2", "a0000000", "Z9z9Z9z9"):
            self.tell_part(SCHEME, scheme, True)

    def test_each_sign_first_and_behind(self):
        for sign in SIGNS:
            self.tell_part(SCHEME, sign, sign.isalpha())
            self.tell_part(SCHEME, "a" + sign, sign.isalnum())
            self.tell_part(SCHEME, "abcdefg" + sign, sign.isalnum())

    def test_eight_and_nine_signs(self):
        self.tell_part(SCHEME, "abcdefgh", True)
        self.tell_part(SCHEME, "abcdefghi", False)
        self.tell_part(SCHEME, "a1234567", True)
        self.tell_part(SCHEME, "a12345678", False)

    def test_a_figure_first(self):
        for scheme in ("0", "9a", "1234567a"):
            self.tell_part(SCHEME, scheme, False)

    def test_none_is_the_text_without_signs_alone(self):
        self.tell_part(SCHEME, "", True)
        self.tell_part(SCHEME, None, False)
        self.tell_part(SCHEME, None, False, BARE)

    def test_no_signs(self):
        for text in NO_SIGNS:
            self.tell_part(SCHEME, text, False)


class TheHouse(Asking):
    def test_one_to_sixty_signs(self):
        for count in (1, 2, 59, 60):
            self.tell_part(HOUSE, "h" * count, True)
            self.tell_part(HOUSE, "~" * count, True)
        for count in (0, 61, 62, 2000):
            self.tell_part(HOUSE, "h" * count, False)

    def test_none(self):
        self.tell(with_part(with_part(FULL, DOOR, None), HOUSE, None), True)

    def test_no_signs(self):
        for text in NO_SIGNS:
            self.tell_part(HOUSE, text, False)


class TheDoor(Asking):
    def test_the_bounds(self):
        for door in (0, 1, 80, 65534, 65535, None):
            self.tell_part(DOOR, door, True)
        for door in (-1, -65535, 65536, 65537, 10 ** 60 - 1, -(10 ** 59)):
            self.tell_part(DOOR, door, False)

    def test_no_whole_number(self):
        for door in (True, False, "80", "", "0", 80.0, (80,), [80]):
            self.tell_part(DOOR, door, False)

    def test_a_door_without_a_house(self):
        for door in (0, 80, 65535):
            self.tell((("x", None, door) + FULL[3:]), False)
            self.tell((("", None, door) + FULL[3:]), False)
        self.tell((("x", None, None) + FULL[3:]), True)


class TheWay(Asking):
    def test_not_rooted_behind_a_scheme_or_a_house(self):
        for way in ((False, (), False), (False, ("a",), False), (False, ("a",), True)):
            self.tell(("", None, None, way, None, None), True)
            self.tell(("x", None, None, way, None, None), False)
            self.tell(("", "h", None, way, None, None), False)
            self.tell(("", "h", 80, way, None, None), False)
            self.tell(("x", "h", None, way, None, None), False)

    def test_ends_as_rooted_where_there_are_no_steps(self):
        self.tell_part(WAY, (True, (), True), True, BARE)
        self.tell_part(WAY, (False, (), False), True, BARE)
        self.tell_part(WAY, (True, (), False), False, BARE)
        self.tell_part(WAY, (False, (), True), False, BARE)
        self.tell_part(WAY, (True, (), True), True)
        self.tell_part(WAY, (True, (), False), False)

    def test_ends_or_not_where_there_are_steps(self):
        for rooted, ends in itertools.product((True, False), repeat=2):
            self.tell_part(WAY, (rooted, ("a",), ends), True, BARE)

    def test_a_number_or_another_thing_in_the_stead_of_a_truth(self):
        for thing in (0, 1, 1.0, None, "", "True", (), (True,), [], Hostile()):
            for address in (FULL, BARE):
                self.tell_part(WAY, (thing, ("a",), False), False, address)
                self.tell_part(WAY, (True, ("a",), thing), False, address)
                self.tell_part(WAY, (thing, (), True), False, address)
                self.tell_part(WAY, (True, (), thing), False, address)
        self.tell_part(WAY, (1, (), 1), False)
        self.tell_part(WAY, (0, (), 0), False, BARE)

    def test_lists_in_the_stead_of_tuples(self):
        self.tell_part(WAY, [True, ("a",), False], False)
        self.tell_part(WAY, (True, ["a"], False), False)
        self.tell_part(WAY, (True, [], True), False)

    def test_a_part_too_few_or_too_many(self):
        for way in ((), (True,), (True, ("a",)), (True, ("a",), False, None), (("a",), False), (True, True)):
            self.tell_part(WAY, way, False)
        self.tell_part(WAY, None, False)

    def test_other_kinds_in_the_stead_of_the_steps(self):
        for thing in of_other_kinds() + [None, "", "a", "ab"]:
            self.tell_part(WAY, (True, thing, True), False)

    def test_a_step_that_is_none(self):
        for step in of_other_kinds() + [None, "", ()] + list(NO_SIGNS):
            for steps in ((step,), (step, "a"), ("a", step), ("a", step, "a")):
                self.tell_part(WAY, (True, steps, False), False)

    def test_dots_are_steps(self):
        for step in (".", "..", "...", "/", "a/b", "~", "?", "#"):
            self.tell_part(WAY, (True, (step,), False), True)


class TheQuestion(Asking):
    def test_questions(self):
        for question in (None, (), (("a", None),), (("a", ""),), (("a", "b"),), (("a", None),) * 3, (("=", "&"),)):
            self.tell_part(QUESTION, question, True)
            self.tell_part(QUESTION, question, True, BARE)

    def test_lists_in_the_stead_of_tuples(self):
        for question in ([], [("a", "b")], (["a", "b"],), (("a", "b"), ["a", "b"])):
            self.tell_part(QUESTION, question, False)

    def test_a_pair_alone_is_no_question(self):
        for question in (("a", None), ("a", "b"), ("ab", "cd"), "", "ab", ("",)):
            self.tell_part(QUESTION, question, False)

    def test_a_part_too_few_or_too_many(self):
        for pair in ((), ("a",), ("a", None, None), ("a", "b", "c")):
            self.tell_part(QUESTION, (pair,), False)
            self.tell_part(QUESTION, (("a", "b"), pair), False)

    def test_a_pair_of_another_kind(self):
        for thing in of_other_kinds() + [None, "", "ab"]:
            self.tell_part(QUESTION, (thing,), False)
            self.tell_part(QUESTION, (thing, ("a", "b")), False)

    def test_a_name_that_is_none(self):
        for name in of_other_kinds() + [None, "", ()] + list(NO_SIGNS):
            self.tell_part(QUESTION, ((name, "b"),), False)
            self.tell_part(QUESTION, (("a", "b"), (name, None)), False)

    def test_a_value_that_is_none(self):
        for value in of_other_kinds() + [()] + list(NO_SIGNS):
            self.tell_part(QUESTION, (("a", value),), False)
            self.tell_part(QUESTION, (("a", "b"), ("a", value)), False)


class TheMark(Asking):
    def test_marks(self):
        for mark in (None, "", "m", "~", " ", SIGNS):
            self.tell_part(MARK, mark, True)
            self.tell_part(MARK, mark, True, BARE)

    def test_no_marks(self):
        for mark in of_other_kinds() + [(), ("m",), ["m"]] + list(NO_SIGNS):
            self.tell_part(MARK, mark, False)


class Whole(unittest.TestCase):
    def test_just_where_there_is_a_scheme(self):
        rooted = (True, ("a",), False)
        for rest in ((None, None, rooted, None, None), ("h", None, rooted, None, None), ("h", 80, rooted, (), "m"),
                     (None, None, (True, (), True), (("a", "b"),), "")):
            for scheme in ("x", "A", "abcdefgh", "h2"):
                self.assertIs(is_whole((scheme,) + rest), True)
            self.assertIs(is_whole(("",) + rest), False)

    def test_a_way_not_rooted(self):
        self.assertIs(is_whole(BARE), False)
        self.assertIs(is_whole(("", None, None, (False, ("x:",), True), None, None)), False)


class NothingIsChanged(unittest.TestCase):
    def test_what_is_handed_in(self):
        for thing in ([list(FULL)], {"a": [1, 2]}, ("x", ["h"], [], [True, ["a"], {}], [["a", "b"]], [])):
            before = copy.deepcopy(thing)
            self.assertIs(is_address(thing), False)
            self.assertEqual(thing, before)

    def test_asked_again(self):
        steps = ["a"]
        thing = ("x", None, None, (True, steps, False), None, None)
        for turn in range(3):
            self.assertIs(is_address(FULL), True)
            self.assertIs(is_whole(FULL), True)
            self.assertIs(is_address(BARE), True)
            self.assertIs(is_whole(BARE), False)
            self.assertIs(is_address(thing), False)
            steps.append("b")


if __name__ == "__main__":
    unittest.main()
