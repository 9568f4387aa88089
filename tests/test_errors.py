"""Point 4: the refusals."""

import unittest

from callmelt import errors

WITH_TEXT = ["NoText", "Nothing", "NoRow"]
WITH_FIELDS = {
    "BadDef": ["at"],
    "BadRun": ["at"],
    "BadItem": ["at"],
    "NoChoice": ["at"],
    "Stopped": ["at"],
    "Twice": ["name"],
    "NoDef": ["name"],
    "Loose": ["where", "word"],
    "Astray": ["where", "word"],
    "Unfit": ["where", "many"],
    "NoPath": ["path"],
    "TooMany": ["number"],
    "Large": ["number"],
}


class TestErrors(unittest.TestCase):
    def test_melt_error_stands_right_under_value_error(self):
        self.assertEqual(errors.MeltError.__bases__, (ValueError,))

    def test_each_class_stands_right_under_melt_error(self):
        for name in WITH_TEXT + list(WITH_FIELDS):
            with self.subTest(name):
                self.assertEqual(getattr(errors, name).__bases__, (errors.MeltError,))

    def test_none_stands_under_another_one(self):
        classes = [getattr(errors, name) for name in WITH_TEXT + list(WITH_FIELDS)]
        for one in classes:
            self.assertEqual([other for other in classes if issubclass(one, other)], [one])

    def test_made_with_a_text(self):
        for name in ["MeltError"] + WITH_TEXT:
            with self.subTest(name):
                with self.assertRaises(errors.MeltError) as caught:
                    raise getattr(errors, name)("some text")
                self.assertEqual(str(caught.exception), "some text")

    def test_made_with_any_thing_in_the_place_of_a_text(self):
        for name in ["MeltError"] + WITH_TEXT:
            for thing in [None, 3, [1], {}, b"a", object()]:
                self.assertIsInstance(getattr(errors, name)(thing), ValueError)

    def test_fields_are_what_they_were_made_with(self):
        things = [0, None, True, "f", ("f", 3), [1, [2]], {}, {"a": 1}, b"a", object(), 10 ** 5000, len]
        for name, fields in WITH_FIELDS.items():
            for thing in things:
                made_with = [thing, [thing]][:len(fields)]
                with self.subTest(name):
                    with self.assertRaises(errors.MeltError) as caught:
                        raise getattr(errors, name)(*made_with)
                    for field, one in zip(fields, made_with):
                        self.assertIs(getattr(caught.exception, field), one)

    def test_a_message_is_told_of_whatever_it_was_made_with(self):
        for name, fields in WITH_FIELDS.items():
            error = getattr(errors, name)(*[10 ** 5000 for field in fields])
            self.assertIsInstance(str(error), str)
            self.assertIsInstance(repr(error), str)

    def test_as_many_as_there_are_fields(self):
        for name, fields in WITH_FIELDS.items():
            with self.subTest(name):
                self.assertRaises(TypeError, getattr(errors, name))
                self.assertRaises(TypeError, getattr(errors, name), *[0 for field in fields], 0)


if __name__ == "__main__":
    unittest.main()
