"""The refusals of waymark.errors: the interface's section on them, and point [2]."""

import unittest

from waymark.errors import NoAddress, NoBase, NoName, NoPattern, NoRow, NoValue, WayError

WITHOUT_FIELDS = (NoBase, NoPattern, NoName, NoRow)
REFUSALS = WITHOUT_FIELDS + (NoAddress, NoValue)


class TheClasses(unittest.TestCase):
    def test_way_error_stands_straight_under_value_error(self):
        self.assertEqual(WayError.__bases__, (ValueError,))

    def test_each_refusal_stands_straight_under_way_error(self):
        for refusal in REFUSALS:
            with self.subTest(refusal=refusal.__name__):
                self.assertEqual(refusal.__bases__, (WayError,))

    def test_no_refusal_stands_under_another(self):
        for one in REFUSALS:
            for other in REFUSALS:
                with self.subTest(one=one.__name__, other=other.__name__):
                    self.assertEqual(issubclass(one, other), one is other)

    def test_names(self):
        names = [refusal.__name__ for refusal in REFUSALS]
        self.assertEqual(names, ["NoBase", "NoPattern", "NoName", "NoRow", "NoAddress", "NoValue"])


class TheirObjects(unittest.TestCase):
    def test_no_address_has_its_place(self):
        for at in (0, 1, 8, 2000, 10 ** 60 - 1):
            self.assertEqual(NoAddress(at).at, at)

    def test_no_value_has_its_name(self):
        for name in ("", "id", "tag", "not a name"):
            self.assertEqual(NoValue(name).name, name)

    def test_fields_by_keyword(self):
        self.assertEqual(NoAddress(at=3).at, 3)
        self.assertEqual(NoValue(name="id").name, "id")

    def test_fields_are_each_objects_own(self):
        one, other = NoAddress(1), NoAddress(2)
        self.assertEqual((one.at, other.at), (1, 2))
        one, other = NoValue("a"), NoValue("b")
        self.assertEqual((one.name, other.name), ("a", "b"))

    def test_raised_and_taken_as_itself_and_as_any_refusal(self):
        errors = [refusal() for refusal in WITHOUT_FIELDS] + [NoAddress(3), NoValue("id")]
        for error in errors:
            for taken in (error.__class__, WayError, ValueError):
                with self.subTest(error=error.__class__.__name__, taken=taken.__name__):
                    with self.assertRaises(taken) as caught:
                        raise error
                    self.assertIs(caught.exception, error)

    def test_words_may_be_given_where_there_is_no_field(self):
        for refusal in WITHOUT_FIELDS + (WayError,):
            self.assertEqual(str(refusal("why")), "why")


if __name__ == "__main__":
    unittest.main()
