"""The refusals (promise [2], interface cameposts/errors.py)."""

import unittest

from cameposts import errors
from tests.checks import HUGE, THINGS

PLAIN = ["NoChoice", "NoEnd", "NoGoers", "NoName", "NoNumber", "NoPair", "NoPlace", "NoWishes"]
BEARING = ["NoRow", "NoStanding", "NoTown"]


def named(name):
    return getattr(errors, name)


class Classes(unittest.TestCase):
    def test_each_stands_straight_under_post_error(self):
        self.assertEqual(errors.PostError.__bases__, (ValueError,))
        for name in PLAIN + BEARING:
            self.assertEqual(named(name).__bases__, (errors.PostError,), name)

    def test_each_is_defined_in_errors(self):
        for name in ["PostError"] + PLAIN + BEARING:
            self.assertEqual(named(name).__module__, "cameposts.errors")
            self.assertEqual(named(name).__name__, name)

    def caught_as(self, made):
        """The names of the classes as which the error is caught."""
        found = []
        for name in ["PostError"] + PLAIN + BEARING:
            try:
                try:
                    raise made
                except named(name):
                    found.append(name)
            except errors.PostError:
                pass
        with self.assertRaises(ValueError) as caught:
            raise made
        self.assertIs(caught.exception, made)
        return found

    def test_those_of_nothing_or_a_text(self):
        for name in PLAIN:
            for made in (named(name)(), named(name)("a text"), named(name)("")):
                self.assertIs(type(made), named(name))
                self.assertEqual(self.caught_as(made), ["PostError", name])

    def test_post_error_itself(self):
        for made in (errors.PostError(), errors.PostError("a text")):
            self.assertEqual(self.caught_as(made), ["PostError"])

    def test_those_with_a_value(self):
        values = THINGS + [HUGE, [1, [2]], ("road", 3), ["a"], 0, 7]
        for name in BEARING:
            for value in values:
                for made in (named(name)(value), named(name)(wrong=value)):
                    self.assertIs(made.wrong, value)
                    self.assertEqual(self.caught_as(made), ["PostError", name])
                    self.assertIs(made.wrong, value)

    def test_the_value_must_be_given(self):
        for name in BEARING:
            with self.assertRaises(TypeError):
                named(name)()


if __name__ == "__main__":
    unittest.main()
