"""What several tests check: errors of exactly one class with their attributes, in their order, and arguments that stay."""

import copy
import unittest

from asksold.errors import AskError
from cases import the_same


class Checks(unittest.TestCase):
    def assert_error(self, kind, attributes, call, *values, **named):
        """The call raises this very class, with these attributes and no others, and leaves its arguments alone."""
        before = copy.deepcopy((values, named))
        with self.assertRaises(kind) as caught:
            call(*values, **named)
        self.assertIs(type(caught.exception), kind)
        self.assertTrue(the_same(vars(caught.exception), attributes), (vars(caught.exception), attributes))
        self.assertTrue(the_same((values, named), before))

    def assert_order(self, call, right, wrongs):
        """With one or two arguments wrong, the error of the first one in the order of the wrongs is raised.

        The wrongs are (parameter, value, class of error, attributes), the right arguments a dict by parameters.
        """
        for at, (name, value, kind, attributes) in enumerate(wrongs):
            with self.subTest(name=name, value=value):
                self.assert_error(kind, attributes, call, **{**right, name: value})
                for other, worse, _, _ in wrongs[at + 1:]:
                    if other != name:
                        self.assert_error(kind, attributes, call, **{**right, name: value, other: worse})

    def assert_the_same(self, one, other):
        self.assertTrue(the_same(one, other), f"{one!r} is not {other!r}")


def outcome(call, *values, **named):
    """What a call returns, or the name of the class of its error, and then the error's attributes."""
    try:
        return "result", call(*values, **named)
    except AskError as error:
        return type(error).__name__, vars(error)


def first(generator):
    """A function that requests the first item of what a generator function yields."""
    return lambda *values, **named: next(generator(*values, **named))
