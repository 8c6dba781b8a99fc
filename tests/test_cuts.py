"""Points 13 to 16, by hand: deeds on seams and patches."""

import unittest

from halfseams.cuts import cut, folded, joined, merged, puffed, split, turned, unturned
from tests.checks import Cases
from tests.samples import (
    BALL, BALL_MATES, HANDLE, LONE, PATCH_OF_MATES, PILLOW, PURSE, TUBE, TWO_SINGLES, TWO_SQUARES, TWO_TRIANGLES, grid,
    opposite, ring, side_by_side, single_patches)

N = None


class TestSplit(Cases):
    def test_at_a_rim(self):
        self.assert_told(
            split,
            (LONE, (0,), ((1, 0), (N, N))),
            (ring(2), (0,), ((2, 0, 1), (N, N, N))),
            (ring(2), (1,), ((1, 2, 0), (N, N, N))),
            (ring(3), (1,), ((1, 3, 0, 2), (N, N, N, N))),
            (TWO_TRIANGLES, (5,), ((1, 2, 0, 4, 5, 6, 3), (3, N, N, 0, N, N, N))))

    def test_with_a_mate(self):
        self.assert_told(
            split,
            (TWO_SINGLES, (0,), ((2, 3, 0, 1), (3, 2, 1, 0))),
            (TWO_SINGLES, (1,), ((3, 2, 1, 0), (2, 3, 0, 1))),
            (TWO_TRIANGLES, (3,), ((7, 2, 0, 6, 5, 3, 4, 1), (6, N, N, 7, N, N, 0, 3))),
            (TWO_TRIANGLES, (0,), ((6, 2, 0, 7, 5, 3, 1, 4), (7, N, N, 6, N, N, 3, 0))))

    def test_with_a_mate_in_the_same_patch(self):
        self.assert_told(
            split,
            (PATCH_OF_MATES, (0,), ((2, 3, 1, 0), (3, 2, 1, 0))),
            (PURSE, (0,), ((3, 4, 0, 1, 2), (4, 3, N, 1, 0))),
            (HANDLE, (1,), ((1, 4, 3, 5, 2, 0), (2, 5, 0, 4, 3, 1))))


class TestMerged(Cases):
    def test_at_a_rim(self):
        self.assert_told(
            merged,
            (ring(2), (0,), LONE),
            (ring(2), (1,), LONE),
            (ring(3), (0,), ring(2)),
            (ring(3), (2,), ring(2)),
            (TWO_TRIANGLES, (1,), ((1, 0, 3, 4, 2), (2, N, 0, N, N))),
            (TWO_TRIANGLES, (4,), ((1, 2, 0, 4, 3), (3, N, N, 0, N))))

    def test_with_mates(self):
        self.assert_told(
            merged,
            (((2, 3, 0, 1), (3, 2, 1, 0)), (0,), TWO_SINGLES),
            (((2, 3, 0, 1), (3, 2, 1, 0)), (2,), TWO_SINGLES),
            (((2, 3, 1, 0), (3, 2, 1, 0)), (0,), PATCH_OF_MATES),
            (((2, 3, 1, 0), (3, 2, 1, 0)), (1,), PATCH_OF_MATES),
            (PILLOW, (0,), ((1, 0, 3, 2), (3, 2, 1, 0))),
            (((7, 2, 0, 6, 5, 3, 4, 1), (6, N, N, 7, N, N, 0, 3)), (3,), TWO_TRIANGLES),
            (((7, 2, 0, 6, 5, 3, 4, 1), (6, N, N, 7, N, N, 0, 3)), (0,), TWO_TRIANGLES))

    def test_those_above_come_down(self):
        # 0 to 3 lie round one patch; 2 and 3 merge at the rim, then 4 and 5 come down by one.
        skin = ((1, 2, 3, 0, 5, 4), (4, 5, N, N, 0, 1))
        self.assert_told(
            merged,
            (skin, (2,), ((1, 2, 0, 4, 3), (3, 4, N, 0, 1))),
            (skin, (0,), ((1, 2, 0, 3), (3, N, N, 0))),
            (skin, (5,), ((1, 2, 0, 3), (3, N, N, 0))))

    def test_what_is_behind_is_the_half_seam_itself(self):
        self.assert_told(merged, (LONE, (0,), "knot"), (TWO_SINGLES, (0,), "knot"), (single_patches(3), (2,), "knot"))

    def test_what_is_behind_is_the_mate(self):
        self.assert_told(merged, (PATCH_OF_MATES, (0,), "knot"), (PATCH_OF_MATES, (1,), "knot"), (PURSE, (0,), "knot"),
                         (((2, 3, 1, 0), (3, 2, 1, 0)), (2,), "knot"))

    def test_only_one_has_a_mate(self):
        self.assert_told(merged, (TWO_TRIANGLES, (0,), "knot"), (TWO_TRIANGLES, (2,), "knot"), (PURSE, (1,), "knot"),
                         (PURSE, (2,), "knot"), (TUBE, (0,), "knot"), (TUBE, (1,), "knot"))

    def test_mates_that_do_not_come_behind_one_another(self):
        self.assert_told(merged, (BALL, (0,), "knot"), (HANDLE, (0,), "knot"), (HANDLE, (1,), "knot"),
                         (opposite(6), (0,), "knot"),
                         # The mates 3 and 4 of 0 and 1 come 4 behind 3, the wrong way about.
                         (((1, 2, 0, 4, 5, 3), (3, 4, N, 0, 1, N)), (0,), "knot"))


class TestCut(Cases):
    def test_one_and_the_same(self):
        self.assert_told(
            cut,
            (LONE, (0, 0), ((2, 1, 0), (N, 2, 1))),
            (ring(2), (0, 0), ((1, 3, 2, 0), (N, N, 3, 2))),
            (ring(3), (1, 1), ((4, 2, 0, 3, 1), (N, N, N, 4, 3))),
            (TWO_SINGLES, (1, 1), ((0, 3, 2, 1), (1, 0, 3, 2))))

    def test_the_one_behind_the_other(self):
        self.assert_told(
            cut,
            (ring(2), (0, 1), ((2, 3, 0, 1), (N, N, 3, 2))),
            (ring(2), (1, 0), ((3, 2, 1, 0), (N, N, 3, 2))),
            (ring(3), (0, 1), ((3, 2, 4, 0, 1), (N, N, N, 4, 3))),
            (ring(3), (0, 2), ((1, 3, 4, 0, 2), (N, N, N, 4, 3))),
            (PATCH_OF_MATES, (0, 1), ((2, 3, 0, 1), (1, 0, 3, 2))))

    def test_across(self):
        self.assert_told(
            cut,
            (ring(4), (0, 2), ((1, 4, 3, 5, 0, 2), (N, N, N, N, 5, 4))),
            (ring(4), (2, 0), ((1, 5, 3, 4, 2, 0), (N, N, N, N, 5, 4))),
            (ring(6), (4, 2), ((1, 6, 3, 7, 5, 0, 4, 2), (N,) * 6 + (7, 6))),
            (HANDLE, (1, 3), ((5, 2, 4, 0, 1, 3), (2, 3, 0, 1, 5, 4))))

    def test_not_of_one_patch(self):
        self.assert_told(cut, (single_patches(2), (0, 1), "Unlike"), (TWO_SINGLES, (0, 1), "Unlike"),
                         (TWO_TRIANGLES, (0, 3), "Unlike"), (BALL, (11, 0), "Unlike"))


class TestJoined(Cases):
    def test_of_two_patches(self):
        self.assert_told(
            joined,
            (((1, 4, 3, 5, 0, 2), (N, N, N, N, 5, 4)), (4,), ring(4)),
            (((1, 4, 3, 5, 0, 2), (N, N, N, N, 5, 4)), (5,), ring(4)),
            (TWO_TRIANGLES, (0,), ring(4)),
            (TWO_TRIANGLES, (3,), ring(4)),
            # Behind one another come 2, 0, 3, 4.
            (PILLOW, (1,), ((2, 0, 3, 1), (2, 3, 0, 1))),
            (BALL, (0,), ((1, 5, 3, 4, 2, 6, 0, 8, 9, 7), BALL_MATES)),
            (BALL, (8,), ((1, 5, 3, 4, 2, 6, 0, 8, 9, 7), BALL_MATES)))

    def test_where_one_patch_is_of_one(self):
        self.assert_told(
            joined,
            (((2, 1, 0), (N, 2, 1)), (1,), LONE),
            (((2, 1, 0), (N, 2, 1)), (2,), LONE),
            (((4, 2, 0, 3, 1), (N, N, N, 4, 3)), (3,), ring(3)),
            (((4, 2, 0, 3, 1), (N, N, N, 4, 3)), (4,), ring(3)),
            (((0, 2, 3, 1), (1, 0, N, N)), (0,), ring(2)),
            (((0, 2, 3, 1), (1, 0, N, N)), (1,), ring(2)))

    def test_refused(self):
        self.assert_told(joined, (LONE, (0,), "rim"), (TWO_TRIANGLES, (1,), "rim"), (PURSE, (2,), "rim"),
                         (PATCH_OF_MATES, (0,), "one"), (PURSE, (0,), "one"), (HANDLE, (3,), "one"),
                         (TWO_SINGLES, (0,), "last"), (TWO_SINGLES, (1,), "last"),
                         (side_by_side(ring(3), TWO_SINGLES), (3,), "last"))


class TestTurned(Cases):
    def test_turned(self):
        self.assert_told(
            turned,
            (TWO_TRIANGLES, (0,), ((2, 3, 4, 5, 0, 1), TWO_TRIANGLES[1])),
            (TWO_TRIANGLES, (3,), ((2, 3, 4, 5, 0, 1), TWO_TRIANGLES[1])),
            (PILLOW, (0,), ((2, 3, 4, 5, 0, 1), PILLOW[1])),
            # (1, 2, 0) and (5, 3, 4) become (1, 0, 3) and (5, 4, 2).
            (PILLOW, (1,), ((3, 0, 5, 1, 2, 4), PILLOW[1])),
            (BALL, (0,), ((2, 8, 6, 4, 5, 3, 0, 1, 7, 10, 11, 9), BALL[1])),
            (BALL, (8,), ((2, 8, 6, 4, 5, 3, 0, 1, 7, 10, 11, 9), BALL[1])))

    def test_unturned(self):
        self.assert_told(
            unturned,
            (TWO_TRIANGLES, (0,), ((5, 0, 4, 2, 3, 1), TWO_TRIANGLES[1])),
            (((2, 3, 4, 5, 0, 1), TWO_TRIANGLES[1]), (0,), TWO_TRIANGLES),
            (((3, 0, 5, 1, 2, 4), PILLOW[1]), (1,), PILLOW),
            (((3, 0, 5, 1, 2, 4), PILLOW[1]), (5,), PILLOW),
            (((2, 8, 6, 4, 5, 3, 0, 1, 7, 10, 11, 9), BALL[1]), (8,), BALL))

    def test_refused(self):
        triangle_and_square = ((1, 2, 0, 4, 5, 6, 3), (3, N, N, 0, N, N, N))
        for function in (turned, unturned):
            self.assert_told(
                function,
                (TWO_TRIANGLES, (1,), "rim"), (ring(3), (0,), "rim"), (PURSE, (2,), "rim"),
                (PURSE, (0,), "one"), (PURSE, (1,), "one"),
                (triangle_and_square, (0,), "three"), (triangle_and_square, (3,), "three"),
                (TWO_SQUARES, (1,), "three"), (TWO_SINGLES, (0,), "three"), (grid(2, 2, True), (0,), "three"))

    def test_which_refusal_goes_first(self):
        for function in (turned, unturned):
            self.assert_told(function, (ring(4), (0,), "rim"), (LONE, (0,), "rim"), (TWO_SQUARES, (0,), "rim"),
                             (HANDLE, (0,), "one"), (PATCH_OF_MATES, (0,), "one"), (TUBE, (1,), "one"))


class TestFolded(Cases):
    def test_with_two_mates(self):
        self.assert_told(
            folded,
            (((1, 0, 2, 3), (2, 3, 0, 1)), (0,), TWO_SINGLES),
            (((1, 0, 2, 3), (2, 3, 0, 1)), (1,), TWO_SINGLES),
            (((1, 0, 3, 2), (2, 3, 0, 1)), (0,), PATCH_OF_MATES),
            (((1, 0, 3, 2), (2, 3, 0, 1)), (3,), PATCH_OF_MATES),
            # Between the two triangles lies the patch of 2 and 5.
            (((1, 3, 5, 0, 6, 2, 7, 4), (2, N, 0, N, 5, 4, N, N)), (5,), TWO_TRIANGLES))

    def test_with_one_at_a_rim(self):
        self.assert_told(
            folded,
            (((1, 0, 2, 3), (2, N, 0, N)), (0,), single_patches(2)),
            (((1, 0, 2, 3), (2, N, 0, N)), (1,), single_patches(2)),
            (((0, 2, 1), (1, 0, N)), (1,), LONE),
            (((0, 2, 1), (1, 0, N)), (2,), LONE))

    def test_refused(self):
        self.assert_told(folded, (LONE, (0,), "two"), (ring(3), (0,), "two"), (TWO_SINGLES, (0,), "two"),
                         (BALL, (4,), "two"), (TUBE, (1,), "two"),
                         (PATCH_OF_MATES, (0,), "last"), (PATCH_OF_MATES, (1,), "last"), (ring(2), (0,), "last"),
                         (side_by_side(TWO_SINGLES, ring(2)), (3,), "last"))


class TestPuffed(Cases):
    def test_puffed(self):
        self.assert_told(
            puffed,
            (LONE, (0,), ((0, 2, 1), (1, 0, N))),
            (PATCH_OF_MATES, (0,), ((1, 0, 3, 2), (2, 3, 0, 1))),
            (PATCH_OF_MATES, (1,), ((1, 0, 3, 2), (3, 2, 1, 0))),
            (TWO_SINGLES, (1,), ((0, 1, 3, 2), (3, 2, 1, 0))),
            (TWO_TRIANGLES, (3,), ((1, 2, 0, 4, 5, 3, 7, 6), (7, N, N, 6, N, N, 3, 0))),
            (TWO_TRIANGLES, (1,), ((1, 2, 0, 4, 5, 3, 7, 6), (3, 6, N, 0, N, N, 1, N))))


class TestBounds(Cases):
    def test_numbers_that_are_no_half_seams(self):
        for function in (split, merged, joined, turned, unturned, folded, puffed):
            for skin in (LONE, PURSE, BALL, ring(400), grid(10, 10, True)):
                many = len(skin[0])
                for number in (-1, -many, -many - 1, -999999999, many, many + 1, 999999999):
                    self.assert_told(function, (skin, (number,), "NoHalf"))

    def test_of_two_numbers_each_may_be_no_half_seam(self):
        for skin in (LONE, PURSE, BALL, ring(400), single_patches(400)):
            many = len(skin[0])
            for number in (-1, -many, -999999999, many, 999999999):
                for other in (0, many - 1, -1, many):
                    self.assert_told(cut, (skin, (number, other), "NoHalf"), (skin, (other, number), "NoHalf"))

    def test_room_for_one(self):
        self.assertEqual(len(split(ring(399), 7)[0]), 400)
        self.assert_told(split, (ring(400), (7,), "TooMany"), (ring(399), (399,), "NoHalf"))

    def test_room_for_two(self):
        mated = side_by_side(PATCH_OF_MATES, ring(396))
        for function, numbers in ((split, (0,)), (split, (1,)), (cut, (0, 1)), (cut, (0, 0)), (puffed, (0,)),
                                  (puffed, (2,))):
            self.assertEqual(len(function(mated, *numbers)[0]), 400)
            for more in (1, 2):
                skin = side_by_side(mated, ring(more))
                self.assert_told(function, (skin, numbers, "TooMany"))

    def test_too_many_goes_behind_all_others(self):
        for skin in (single_patches(399), single_patches(400)):
            self.assert_told(cut, (skin, (0, 1), "Unlike"), (skin, (0, 0), "TooMany"))
            self.assert_told(cut, (skin, (0, 400), "NoHalf"), (skin, (-1, 0), "NoHalf"))
            self.assert_told(split, (skin, (400,), "NoHalf"))
            self.assert_told(puffed, (skin, (400,), "NoHalf"), (skin, (0,), "TooMany"))

    def test_what_brings_no_more_is_done_to_400(self):
        torus = grid(10, 10, True)
        self.assertEqual(len(joined(torus, 0)[0]), 398)
        self.assertEqual(len(merged(ring(400), 0)[0]), 399)
        pairs = side_by_side(*[((1, 0, 2, 3), (2, 3, 0, 1))] * 100)
        self.assertEqual(len(folded(pairs, 0)[0]), 398)
        pillows = side_by_side(*[PILLOW] * 66)
        self.assertEqual(len(turned(pillows, 395)[0]), 396)
        self.assertEqual(unturned(turned(pillows, 395), 395), pillows)


if __name__ == "__main__":
    unittest.main()
