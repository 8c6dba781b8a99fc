"""What several tests ask of what the program tells."""

import unittest

from halfseams.errors import Harm, SkinError


def made_as_told(thing):
    """Whether thing is made of tuples, whole numbers that are no truths, and None."""
    if type(thing) is tuple:
        return all(made_as_told(part) for part in thing)
    return thing is None or type(thing) is int


def outcome(function, *args):
    """What the function tells; or, where it refuses, the word of Harm or the name of the refusal's class."""
    try:
        return function(*args)
    except Harm as refusal:
        return refusal.word
    except SkinError as refusal:
        return type(refusal).__name__


def changes(one, other):
    """By how much each number of other is more than that of one."""
    return tuple(more - less for less, more in zip(one, other, strict=True))


class Cases(unittest.TestCase):
    def assert_told(self, function, *cases):
        """Of each case, a skin, numbers, and what is due: a skin, the word of Harm, or a refusal's name."""
        for skin, numbers, wanted in cases:
            told = outcome(function, skin, *numbers)
            self.assertEqual(told, wanted, (function.__name__, skin, numbers))
            self.assertEqual(outcome(function, skin, *numbers), told)
