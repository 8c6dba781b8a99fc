"""Point 33: walkers."""

import unittest

from halfseams.errors import NoHalf, SkinError
from halfseams.walkers import Walker
from halfseams.walks import ahead_of, left_of, right_of
from tests.checks import outcome
from tests.samples import (
    BALL, BY_HAND, FAN, HANDLE, LONE, PATCH_OF_MATES, PURSE, TUBE, TWO_SINGLES, TWO_TRIANGLES, grid, large_skins,
    middle_skins, ring, shuffled, single_patches, small_skins)

MOST = 10 ** 30
GOING = ("on", "ahead", "left", "right")


class SlowWalker:
    """The words of point 33, one step after the other."""

    def __init__(self, skin, half):
        self.skin = skin
        self.places = [half]

    def step(self, word, half):
        """Where one step leads, or None."""
        if word == "on":
            return self.skin[0][half]
        if word == "over":
            return self.skin[1][half]
        return {"ahead": ahead_of, "left": left_of, "right": right_of}[word](self.skin, half)

    def go(self, word, many=1):
        half = self.places[-1]
        went = 0
        while went < many and self.step(word, half) is not None:
            half = self.step(word, half)
            went += 1
        self.places.append(half)
        return went


class TestByHand(unittest.TestCase):
    def assert_goes(self, skin, *cases):
        """Of each case where one begins, what is done, what is told, and where one is then."""
        for first, (word, *many), told, place in cases:
            walker = Walker(skin, first)
            self.assertEqual((walker.at(), walker.deeds()), (first, 0))
            self.assertEqual(getattr(walker, word)(*many), told, (first, word, many))
            self.assertEqual((walker.at(), walker.deeds()), (place, 1), (first, word, many))
            self.assertIsNone(walker.back())
            self.assertEqual((walker.at(), walker.deeds()), (first, 0))

    def test_on_and_ahead(self):
        self.assert_goes(
            TWO_TRIANGLES, (0, ("on", 0), 0, 0), (0, ("on", 1), 1, 1), (0, ("on", 2), 2, 2), (0, ("on", 3), 3, 0),
            (4, ("on", 7), 7, 5), (4, ("on", 3000002), 3000002, 3), (0, ("ahead", 0), 0, 0), (0, ("ahead", 1), 1, 2),
            (0, ("ahead", 2), 2, 1), (0, ("ahead", 3), 3, 0), (4, ("ahead", 7), 7, 3), (5, ("ahead", 1), 1, 4),
            # 10 ** 30 leaves 1 of threes.
            (0, ("on", MOST), MOST, 1), (0, ("ahead", MOST), MOST, 2), (3, ("on", MOST - 1), MOST - 1, 3))
        self.assert_goes(LONE, (0, ("on", 1), 1, 0), (0, ("ahead", 5), 5, 0), (0, ("on", MOST), MOST, 0))
        self.assert_goes(((2, 0, 1), (None,) * 3), (0, ("on", 1), 1, 2), (0, ("ahead", 1), 1, 1))

    def test_over(self):
        self.assert_goes(TWO_TRIANGLES, (0, ("over",), 1, 3), (3, ("over",), 1, 0), (1, ("over",), 0, 1),
                         (5, ("over",), 0, 5))
        self.assert_goes(LONE, (0, ("over",), 0, 0))
        self.assert_goes(PATCH_OF_MATES, (0, ("over",), 1, 1))

    def test_left_and_right_round_a_knot_that_comes_round(self):
        # The knot (1, 8, 9).
        self.assert_goes(
            BALL, (1, ("left", 0), 0, 1), (1, ("left", 1), 1, 8), (1, ("left", 2), 2, 9), (1, ("left", 3), 3, 1),
            (9, ("left", 1), 1, 1), (8, ("left", 4), 4, 9), (1, ("left", MOST), MOST, 8),
            (1, ("right", 0), 0, 1), (1, ("right", 1), 1, 9), (1, ("right", 2), 2, 8), (1, ("right", 3), 3, 1),
            (9, ("right", 1), 1, 8), (8, ("right", 4), 4, 1), (1, ("right", MOST), MOST, 9))
        self.assert_goes(PATCH_OF_MATES, (0, ("left", 9), 9, 0), (1, ("right", MOST), MOST, 1))
        self.assert_goes(HANDLE, (0, ("left", 6), 6, 2), (0, ("right", 1), 1, 3), (3, ("left", MOST), MOST, 3))

    def test_left_and_right_round_a_knot_at_a_rim(self):
        # The knot (6, 3, 0), from the right to the left.
        self.assert_goes(
            FAN, (6, ("left", 0), 0, 6), (6, ("left", 1), 1, 3), (6, ("left", 2), 2, 0), (6, ("left", 3), 2, 0),
            (3, ("left", 1), 1, 0), (3, ("left", 2), 1, 0), (0, ("left", 1), 0, 0), (0, ("left", 0), 0, 0),
            (6, ("left", MOST), 2, 0), (0, ("right", 1), 1, 3), (0, ("right", 2), 2, 6), (0, ("right", 3), 2, 6),
            (3, ("right", 1), 1, 6), (3, ("right", 2), 1, 6), (6, ("right", 1), 0, 6), (0, ("right", MOST), 2, 6),
            (2, ("left", 5), 0, 2), (2, ("right", 5), 0, 2))
        self.assert_goes(LONE, (0, ("left", 1), 0, 0), (0, ("right", MOST), 0, 0))
        # The knot (2, 0) of the purse, of which 1 alone comes round another.
        self.assert_goes(PURSE, (2, ("left", 4), 1, 0), (0, ("right", 4), 1, 2), (1, ("left", 4), 4, 1))

    def test_each_behind_the_other(self):
        walker = Walker(TUBE, 0)
        told = [walker.on(1), walker.over(), walker.left(1), walker.ahead(2), walker.over(), walker.right(7)]
        # From 0 to 1, over to 3, no farther to the left, ahead to 1, over to 3, right to 2.
        self.assertEqual(told, [1, 1, 0, 2, 1, 1])
        self.assertEqual((walker.at(), walker.deeds()), (2, 6))
        places = []
        while walker.deeds():
            self.assertIsNone(walker.back())
            places.append((walker.at(), walker.deeds()))
        self.assertEqual(places, [(3, 5), (1, 4), (3, 3), (3, 2), (1, 1), (0, 0)])


class TestRefusals(unittest.TestCase):
    def test_no_half(self):
        for skin in (LONE, PURSE, BALL, ring(400)):
            many = len(skin[0])
            for number in (-1, -many, many, many + 1, 999999999, -999999999):
                self.assertEqual(outcome(Walker, skin, number), "NoHalf", number)
                with self.assertRaises(NoHalf):
                    Walker(skin, number)
            self.assertEqual(Walker(skin, many - 1).at(), many - 1)

    def test_too_many_changes_nothing(self):
        for skin, first in ((LONE, 0), (FAN, 3), (BALL, 7)):
            walker = Walker(skin, first)
            for deeds in range(3):
                for word in GOING:
                    for many in (-1, -MOST, MOST + 1, 10 * MOST, 10 ** 400, 10 ** 5000):
                        place = walker.at()
                        self.assertEqual(outcome(getattr(walker, word), many), "TooMany", (word, many))
                        self.assertEqual((walker.at(), walker.deeds()), (place, deeds))
                walker.on(1)
            for step in range(3):
                walker.back()
            self.assertEqual((walker.at(), walker.deeds()), (first, 0))

    def test_nothing_left(self):
        walker = Walker(PURSE, 1)
        self.assertEqual(outcome(walker.back), "NothingLeft")
        walker.on(2)
        walker.back()
        self.assertEqual(outcome(walker.back), "NothingLeft")
        self.assertEqual((walker.at(), walker.deeds()), (1, 0))
        outcome(walker.left, -1)
        self.assertEqual(outcome(walker.back), "NothingLeft")
        self.assertEqual(walker.on(1), 1)
        self.assertEqual((walker.at(), walker.deeds()), (2, 1))

    def test_deeds_that_went_no_times_are_taken_back_one_by_one(self):
        walker = Walker(LONE, 0)
        told = [walker.on(0), walker.ahead(0), walker.over(), walker.left(3), walker.right(3), walker.left(0)]
        self.assertEqual(told, [0] * 6)
        self.assertEqual((walker.at(), walker.deeds()), (0, 6))
        for left in range(5, -1, -1):
            walker.back()
            self.assertEqual((walker.at(), walker.deeds()), (0, left))
        self.assertEqual(outcome(walker.back), "NothingLeft")

    def test_back_behind_one_that_went_no_times(self):
        walker = Walker(TWO_TRIANGLES, 0)
        walker.on(1)
        walker.over()
        self.assertEqual((walker.at(), walker.deeds()), (1, 2))
        walker.back()
        self.assertEqual((walker.at(), walker.deeds()), (1, 1))
        walker.back()
        self.assertEqual((walker.at(), walker.deeds()), (0, 0))


class TestMany(unittest.TestCase):
    def many_skins(self):
        return [told.skin for told in BY_HAND] + list(small_skins(4))[::3] + middle_skins()

    def words(self, seed):
        """A long row of what a walker can do, in an order that hangs on the seed."""
        found = [(word, many) for word in GOING for many in (0, 1, 2, 3, 5, 11, 400)]
        return shuffled(found + [("over",)] * 6, seed)

    def test_as_one_that_goes_step_by_step(self):
        for seed, skin in enumerate(self.many_skins()):
            half = seed % len(skin[0])
            walker, slow = Walker(skin, half), SlowWalker(skin, half)
            for word, *many in self.words(seed):
                told = getattr(walker, word)(*many)
                self.assertIs(type(told), int)
                self.assertEqual(told, slow.go(word, *many), (skin, half, word, many))
                self.assertEqual((walker.at(), walker.deeds()), (slow.places[-1], len(slow.places) - 1))
            while len(slow.places) > 1:
                slow.places.pop()
                walker.back()
                self.assertEqual((walker.at(), walker.deeds()), (slow.places[-1], len(slow.places) - 1))
            self.assertEqual(outcome(walker.back), "NothingLeft")

    def test_as_many_times_as_can_be(self):
        for seed, skin in enumerate(self.many_skins() + large_skins()):
            half = seed * 7 % len(skin[0])
            for word in GOING:
                far, near = Walker(skin, half), SlowWalker(skin, half)
                # All ways round have at most 400 half seams, so 10 ** 30 and what is left of it come to one place.
                round_it = [half]
                while near.step(word, round_it[-1]) not in (None, half):
                    round_it.append(near.step(word, round_it[-1]))
                closed = near.step(word, round_it[-1]) == half
                went = MOST if closed else len(round_it) - 1
                self.assertEqual(getattr(far, word)(MOST), went)
                self.assertEqual(far.at(), round_it[MOST % len(round_it)] if closed else round_it[-1])

    def test_hundreds_of_deeds_taken_back(self):
        for skin in (grid(10, 10, False), BALL, single_patches(400)):
            walker = Walker(skin, 5)
            places = [5]
            for seed in range(30):
                for word, *many in self.words(seed):
                    getattr(walker, word)(*many)
                    places.append(walker.at())
            self.assertGreater(walker.deeds(), 900)
            while walker.deeds():
                self.assertEqual(walker.at(), places.pop())
                self.assertEqual(walker.deeds(), len(places))
                walker.back()
            self.assertEqual([walker.at()], places)
            with self.assertRaises(SkinError):
                walker.back()

    def test_two_walkers_on_one_skin(self):
        one, other, third = Walker(FAN, 0), Walker(FAN, 7), Walker(TWO_SINGLES, 0)
        self.assertEqual([one.on(1), other.ahead(1), third.over()], [1, 1, 1])
        self.assertEqual([one.at(), other.at(), third.at()], [1, 6, 1])
        other.left(2)
        self.assertEqual([one.deeds(), other.deeds(), third.deeds()], [1, 2, 1])
        one.back()
        self.assertEqual([one.at(), other.at(), third.at()], [0, 0, 1])
        self.assertEqual(outcome(one.back), "NothingLeft")
        other.back()
        self.assertEqual([one.at(), other.at(), other.deeds()], [0, 6, 1])

    def test_asked_again(self):
        walker = Walker(BALL, 4)
        walker.right(2)
        self.assertEqual([(walker.at(), walker.deeds()) for again in range(3)], [(walker.at(), 1)] * 3)


if __name__ == "__main__":
    unittest.main()
