"""Tests of point 5: the error classes."""

import unittest

from indexlogs import errors
from indexlogs.errors import Impossible, LogError, NoText, TooMany

PLAIN = ["NoItem", "NoIndex", "NoList", "NoLog", "NoSeen", "NoClients", "NoNumber", "NoPosition", "Nothing"]
WITH_FIELD = {"Impossible": "reason", "TooMany": "many", "NoText": "at"}


class ErrorTest(unittest.TestCase):
    def test_base_is_a_value_error(self):
        self.assertEqual(LogError.__bases__, (ValueError,))
        self.assertEqual(LogError.__module__, "indexlogs.errors")

    def test_each_is_a_direct_subclass_of_the_base_alone(self):
        for name in PLAIN + list(WITH_FIELD):
            with self.subTest(name):
                error = getattr(errors, name)
                self.assertEqual(error.__name__, name)
                self.assertEqual(error.__bases__, (LogError,))
                self.assertEqual(error.__module__, "indexlogs.errors")

    def test_the_plain_ones_are_made_with_one_string(self):
        for name in PLAIN:
            with self.subTest(name):
                error = getattr(errors, name)
                with self.assertRaises(error):
                    raise error("some words")
                self.assertEqual(str(error("some words")), "some words")

    def test_the_others_keep_their_argument(self):
        for worth in [None, 0, 7, 10 ** 400, "x", ("low", "x"), [["a"], []]]:
            for name, field in WITH_FIELD.items():
                with self.subTest(name, worth=worth):
                    error = getattr(errors, name)
                    self.assertIs(getattr(error(worth), field), worth)
                    self.assertIs(getattr(error(**{field: worth}), field), worth)

    def test_the_others_are_caught_with_their_field(self):
        for error, field in [(Impossible, "reason"), (TooMany, "many"), (NoText, "at")]:
            with self.assertRaises(LogError) as caught:
                raise error(12)
            self.assertEqual(getattr(caught.exception, field), 12)

    def test_the_others_need_their_argument(self):
        for name in WITH_FIELD:
            with self.subTest(name):
                with self.assertRaises(TypeError):
                    getattr(errors, name)()
