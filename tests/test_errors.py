"""The refusals: which classes there are, under which one, with what attributes."""

import unittest

from lazywebs import errors

WITH_NAME = ["Twice", "Hidden", "Stranger", "NoRows"]
WITH_NOTHING = ["NoProgram", "More", "NoRow"]


class Errors(unittest.TestCase):
    def test_one_refusal_is_over_all_others(self):
        self.assertEqual(errors.LazyError.__bases__, (ValueError,))

    def test_each_stands_straight_under_it(self):
        for word in WITH_NAME + WITH_NOTHING + ["NoText"]:
            self.assertEqual(getattr(errors, word).__bases__, (errors.LazyError,), word)

    def test_there_are_no_others(self):
        classes = [word for word, thing in vars(errors).items() if isinstance(thing, type)]
        self.assertEqual(sorted(classes), sorted(WITH_NAME + WITH_NOTHING + ["NoText", "LazyError"]))

    def test_those_about_a_name_keep_it(self):
        for word in WITH_NAME:
            with self.assertRaises(errors.LazyError) as caught:
                raise getattr(errors, word)("abc")
            self.assertEqual(caught.exception.name, "abc")
            self.assertIs(type(caught.exception), getattr(errors, word))
        self.assertEqual(errors.NoRows("").name, "")

    def test_the_one_about_a_text_keeps_its_place(self):
        with self.assertRaises(errors.LazyError) as caught:
            raise errors.NoText(3, 0)
        self.assertEqual((caught.exception.row, caught.exception.word), (3, 0))

    def test_the_others_are_raised_too(self):
        for word in WITH_NOTHING:
            with self.assertRaises(ValueError) as caught:
                raise getattr(errors, word)("told so")
            self.assertIs(type(caught.exception), getattr(errors, word))
