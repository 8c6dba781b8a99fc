"""Points 6 to 9: walks, told by hand and held against the document's words."""

import unittest

from halfseams.errors import NoHalf, NoRim
from halfseams.walks import (
    ahead_of, knots, left_of, patch_of, patches, right_of, rim_of, rims, round_knot, seams)
from tests.checks import made_as_told
from tests.samples import BY_HAND, grid, opposite, ring, single_patches

OF_A_HALF = (ahead_of, left_of, right_of, round_knot, patch_of, rim_of)
OF_A_SKIN = (knots, seams, patches, rims)


def from_one(walk, half):
    """A walk that comes round, begun with half."""
    at = walk.index(half)
    return walk[at:] + walk[:at]


class TestSteps(unittest.TestCase):
    def test_ahead_of(self):
        for told in BY_HAND:
            for half, ahead in enumerate(told.ahead):
                self.assertEqual(ahead_of(told.skin, half), ahead, (told.name, half))

    def test_left_of(self):
        for told in BY_HAND:
            for half, left in enumerate(told.left):
                self.assertEqual(left_of(told.skin, half), left, (told.name, half))

    def test_right_of(self):
        for told in BY_HAND:
            for half, right in enumerate(told.right):
                self.assertEqual(right_of(told.skin, half), right, (told.name, half))


class TestNoHalf(unittest.TestCase):
    def test_numbers_that_are_no_half_seams(self):
        for told in BY_HAND:
            many = len(told.skin[0])
            for number in (-1, -many, -many - 1, -999999999, many, many + 1, 400, 999999999):
                for function in OF_A_HALF:
                    with self.subTest(name=told.name, function=function.__name__, number=number):
                        with self.assertRaises(NoHalf):
                            function(told.skin, number)

    def test_the_bounds_of_400(self):
        skin = ring(400)
        for function in OF_A_HALF:
            for half in (0, 399):
                function(skin, half)
            for number in (-1, 400):
                self.assertRaises(NoHalf, function, skin, number)

    def test_it_goes_ahead_of_no_rim(self):
        # Counted from the end, -1 would have a mate.
        skin = ((1, 0), (1, 0))
        self.assertRaises(NoHalf, rim_of, skin, -1)
        self.assertRaises(NoHalf, rim_of, skin, 2)
        self.assertRaises(NoRim, rim_of, skin, 1)


class TestRoundKnot(unittest.TestCase):
    def test_from_each_half_seam(self):
        for told in BY_HAND:
            for knot in told.knots:
                at_rim = told.left[knot[-1]] is None
                for half in knot:
                    # A knot at a rim always begins with the one without a mate.
                    walk = knot if at_rim else from_one(knot, half)
                    self.assertEqual(round_knot(told.skin, half), walk, (told.name, half))

    def test_one_comes_round(self):
        skin = BY_HAND[13].skin
        self.assertEqual(round_knot(skin, 2), (2, 11, 4))
        self.assertEqual(round_knot(skin, 11), (11, 4, 2))
        self.assertEqual(round_knot(skin, 4), (4, 2, 11))

    def test_at_a_rim(self):
        skin = BY_HAND[12].skin
        for half in (0, 3, 6):
            self.assertEqual(round_knot(skin, half), (6, 3, 0))
        self.assertEqual(round_knot(skin, 2), (2,))

    def test_a_knot_of_400(self):
        skin = opposite(400)
        # Left of h lies the one across from h - 1; of 200 seams, an even count, so comes one knot.
        walk = round_knot(skin, 7)
        self.assertEqual(walk[:3], (7, 206, 5))
        self.assertEqual(len(walk), 400)


class TestPatchOf(unittest.TestCase):
    def test_from_each_half_seam(self):
        for told in BY_HAND:
            for patch in told.patches:
                for half in patch:
                    self.assertEqual(patch_of(told.skin, half), from_one(patch, half), (told.name, half))

    def test_of_one_and_of_400(self):
        self.assertEqual(patch_of(single_patches(400), 399), (399,))
        self.assertEqual(patch_of(ring(400), 399), (399,) + tuple(range(399)))


class TestRimOf(unittest.TestCase):
    def test_from_each_half_seam(self):
        for told in BY_HAND:
            for rim in told.rims:
                for half in rim:
                    self.assertEqual(rim_of(told.skin, half), from_one(rim, half), (told.name, half))

    def test_of_one_that_has_a_mate(self):
        for told in BY_HAND:
            for half, mate in enumerate(told.skin[1]):
                if mate is not None:
                    self.assertRaises(NoRim, rim_of, told.skin, half)

    def test_of_one_and_of_400(self):
        self.assertEqual(rim_of(single_patches(400), 399), (399,))
        self.assertEqual(rim_of(ring(400), 7), tuple(range(7, 400)) + tuple(range(7)))

    def test_round_a_grid(self):
        # Of four squares, two by two: the upper side is 0, 4; then come 5, 13; the lower one is 14, 10; then 11, 3.
        self.assertEqual(rim_of(grid(2, 2, False), 0), (0, 4, 5, 13, 14, 10, 11, 3))


class TestAll(unittest.TestCase):
    def test_knots(self):
        for told in BY_HAND:
            self.assertEqual(knots(told.skin), told.knots, told.name)

    def test_seams(self):
        for told in BY_HAND:
            self.assertEqual(seams(told.skin), told.seams, told.name)

    def test_patches(self):
        for told in BY_HAND:
            self.assertEqual(patches(told.skin), told.patches, told.name)

    def test_rims(self):
        for told in BY_HAND:
            self.assertEqual(rims(told.skin), told.rims, told.name)

    def test_no_mates_at_all(self):
        each_alone = tuple((half,) for half in range(400))
        self.assertEqual(knots(ring(400)), each_alone)
        self.assertEqual(seams(ring(400)), each_alone)
        self.assertEqual(patches(ring(400)), (tuple(range(400)),))
        self.assertEqual(rims(ring(400)), (tuple(range(400)),))
        for function in OF_A_SKIN:
            self.assertEqual(function(single_patches(400)), each_alone)

    def test_without_rims(self):
        skin = grid(10, 10, True)
        self.assertEqual(rims(skin), ())
        self.assertEqual((len(knots(skin)), len(seams(skin)), len(patches(skin))), (100, 200, 100))

    def test_a_grid_with_one_rim(self):
        skin = grid(10, 10, False)
        self.assertEqual((len(knots(skin)), len(seams(skin)), len(patches(skin))), (121, 220, 100))
        self.assertEqual([len(rim) for rim in rims(skin)], [40])


class TestKinds(unittest.TestCase):
    def test_what_is_told_and_that_it_stays(self):
        for told in BY_HAND:
            onward, mates = told.skin
            before = (tuple(list(onward)), tuple(list(mates)))
            for function in OF_A_SKIN:
                answer = function(told.skin)
                self.assertTrue(made_as_told(answer), (told.name, function.__name__))
                self.assertIs(type(answer), tuple)
                self.assertEqual(function(told.skin), answer)
            for half in range(len(onward)):
                for function in OF_A_HALF:
                    if function is rim_of and mates[half] is not None:
                        continue
                    answer = function(told.skin, half)
                    self.assertTrue(made_as_told(answer), (told.name, function.__name__, half))
                    self.assertEqual(function(told.skin, half), answer)
            self.assertEqual(told.skin, before)


if __name__ == "__main__":
    unittest.main()
