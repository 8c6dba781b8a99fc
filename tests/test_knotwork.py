"""Points 17 and 18, by hand: deeds on knots."""

import unittest

from halfseams.knotwork import drawn, grown, parted
from tests.checks import Cases
from tests.samples import (
    BALL, BALL_MATES, FAN, HANDLE, LONE, PATCH_OF_MATES, PILLOW, PURSE, TUBE, TWO_SINGLES, TWO_SQUARES, TWO_TRIANGLES,
    grid, opposite, ring, side_by_side, single_patches)

N = None


class TestDrawn(Cases):
    def test_at_a_rim(self):
        self.assert_told(
            drawn,
            (ring(2), (0,), LONE),
            (ring(2), (1,), LONE),
            (ring(3), (0,), ring(2)),
            (ring(3), (2,), ring(2)),
            (TWO_TRIANGLES, (1,), ((1, 0, 3, 4, 2), (2, N, 0, N, N))),
            (TWO_TRIANGLES, (5,), ((1, 2, 0, 4, 3), (3, N, N, 0, N))))

    def test_with_a_mate_in_another_patch(self):
        self.assert_told(
            drawn,
            (BALL, (0,), ((1, 0, 3, 4, 2, 6, 5, 8, 9, 7), BALL_MATES)),
            (BALL, (8,), ((1, 0, 3, 4, 2, 6, 5, 8, 9, 7), BALL_MATES)),
            (PILLOW, (0,), ((1, 0, 3, 2), (3, 2, 1, 0))))

    def test_with_a_mate_in_its_patch(self):
        self.assert_told(
            drawn,
            (PURSE, (0,), LONE),
            (PURSE, (1,), LONE),
            # 0 to 5 round one patch, 0 and 1 mates, 2 and 5, 3 and 4: three seams at one knot.
            ((ring(6)[0], (1, 0, 5, 4, 3, 2)), (0,), ((1, 2, 3, 0), (3, 2, 1, 0))),
            ((ring(6)[0], (1, 0, 5, 4, 3, 2)), (2,), ((1, 2, 3, 0), (1, 0, 3, 2))),
            ((ring(4)[0], (3, 2, 1, 0)), (0,), PATCH_OF_MATES))

    def test_where_only_one_knot_lies_at_a_rim(self):
        # A square with a seam from its corner 0 to a knot within, there and back as 4 and 5.
        skin = ((1, 2, 3, 4, 5, 0), (N, N, N, N, 5, 4))
        self.assert_told(drawn, (skin, (4,), ring(4)), (skin, (5,), ring(4)))

    def test_a_loop(self):
        self.assert_told(drawn, (LONE, (0,), "loop"), (PURSE, (2,), "loop"), (HANDLE, (0,), "loop"),
                         (TUBE, (0,), "loop"), (TUBE, (2,), "loop"), (opposite(8), (5,), "loop"),
                         (single_patches(3), (1,), "loop"))

    def test_both_knots_at_rims(self):
        self.assert_told(drawn, (TWO_TRIANGLES, (0,), "rims"), (TWO_TRIANGLES, (3,), "rims"), (TUBE, (1,), "rims"),
                         (TUBE, (3,), "rims"), (TWO_SQUARES, (1,), "rims"), (FAN, (0,), "rims"))

    def test_the_last_seam_of_a_part(self):
        self.assert_told(drawn, (PATCH_OF_MATES, (0,), "last"), (PATCH_OF_MATES, (1,), "last"),
                         (side_by_side(BALL, PATCH_OF_MATES), (13,), "last"))

    def test_which_refusal_goes_first(self):
        self.assert_told(
            drawn,
            # Loop and rims: one knot, at a rim, and 0 has a mate.
            ((ring(5)[0], (2, 3, 0, 1, N)), (0,), "loop"),
            # Loop and last.
            (TWO_SINGLES, (0,), "loop"), (TWO_SINGLES, (1,), "loop"), (LONE, (0,), "loop"))


class TestParted(Cases):
    def test_one_and_the_same(self):
        self.assert_told(
            parted,
            (LONE, (0, 0), ((1, 2, 0), (N, 2, 1))),
            (PURSE, (1, 1), ((3, 2, 0, 4, 1), (1, 0, N, 4, 3))),
            (TWO_SINGLES, (1, 1), ((0, 2, 3, 1), (1, 0, 3, 2))),
            (ring(3), (0, 0), ((1, 2, 3, 4, 0), (N, N, N, 4, 3))))

    def test_round_a_knot(self):
        self.assert_told(
            parted,
            (TWO_SINGLES, (0, 1), ((2, 3, 0, 1), (1, 0, 3, 2))),
            (TWO_SINGLES, (1, 0), ((3, 2, 1, 0), (1, 0, 3, 2))),
            (HANDLE, (0, 2), ((1, 5, 3, 4, 0, 2), (2, 3, 0, 1, 5, 4))),
            (HANDLE, (0, 1), ((5, 2, 3, 4, 0, 1), (2, 3, 0, 1, 5, 4))),
            (HANDLE, (1, 0), ((4, 2, 3, 5, 1, 0), (2, 3, 0, 1, 5, 4))),
            (BALL, (3, 0), ((1, 2, 13, 4, 5, 12, 7, 8, 6, 10, 11, 9, 3, 0), BALL[1] + (13, 12))))

    def test_at_a_rim(self):
        self.assert_told(
            parted,
            (PURSE, (2, 0), ((1, 3, 4, 2, 0), (1, 0, N, 4, 3))),
            (PURSE, (0, 2), ((1, 4, 3, 0, 2), (1, 0, N, 4, 3))),
            (FAN, (6, 3), ((1, 2, 0, 4, 5, 10, 7, 8, 9, 6, 3), FAN[1] + (10, 9))))

    def test_not_of_one_knot(self):
        self.assert_told(parted, (ring(2), (0, 1), "Unlike"), (PURSE, (0, 1), "Unlike"), (PILLOW, (0, 1), "Unlike"),
                         (PILLOW, (0, 5), "Unlike"), (single_patches(2), (0, 1), "Unlike"), (BALL, (0, 1), "Unlike"))


class TestGrown(Cases):
    def test_grown(self):
        self.assert_told(
            grown,
            (LONE, (0,), ring(2)),
            (ring(3), (0,), ring(4)),
            (ring(3), (1,), ((3, 2, 0, 1), (N, N, N, N))),
            (PURSE, (0,), ((1, 2, 3, 0), (1, 0, N, N))),
            (PURSE, (2,), ((1, 3, 0, 2), (1, 0, N, N))),
            (TWO_TRIANGLES, (3,), ((1, 2, 0, 4, 5, 6, 3), (3, N, N, 0, N, N, N))),
            (TWO_TRIANGLES, (0,), ((1, 2, 6, 4, 5, 3, 0), (3, N, N, 0, N, N, N))))

    def test_at_no_rim(self):
        self.assert_told(grown, (PATCH_OF_MATES, (0,), "inner"), (TWO_SINGLES, (1,), "inner"), (PURSE, (1,), "inner"),
                         (PILLOW, (5,), "inner"), (BALL, (0,), "inner"), (HANDLE, (0,), "inner"))

    def test_an_inner_knot_of_a_skin_with_a_rim(self):
        skin = grid(2, 2, False)
        # The knot amid the four squares is that of 2, the third of the first square.
        self.assert_told(grown, (skin, (2,), "inner"))
        self.assertEqual(len(grown(skin, 0)[0]), 17)


class TestBounds(Cases):
    def test_numbers_that_are_no_half_seams(self):
        for skin in (LONE, PURSE, BALL, ring(400), grid(10, 10, True)):
            many = len(skin[0])
            for number in (-1, -many, -many - 1, -999999999, many, many + 1, 999999999):
                self.assert_told(drawn, (skin, (number,), "NoHalf"))
                self.assert_told(grown, (skin, (number,), "NoHalf"))
                for other in (0, many - 1, -1, many):
                    self.assert_told(parted, (skin, (number, other), "NoHalf"), (skin, (other, number), "NoHalf"))

    def test_room(self):
        self.assertEqual(len(grown(ring(399), 0)[0]), 400)
        self.assertEqual(len(parted(ring(398), 0, 0)[0]), 400)
        self.assert_told(grown, (ring(400), (0,), "TooMany"))
        for many in (399, 400):
            self.assert_told(parted, (ring(many), (3, 3), "TooMany"), (single_patches(many), (0, 0), "TooMany"))
        self.assert_told(parted, (opposite(400), (0, 5), "TooMany"))

    def test_too_many_goes_behind_all_others(self):
        torus = grid(10, 10, True)
        self.assert_told(grown, (torus, (0,), "inner"), (torus, (400,), "NoHalf"), (ring(400), (-1,), "NoHalf"))
        for many in (399, 400):
            self.assert_told(parted, (ring(many), (0, 1), "Unlike"), (ring(many), (0, many), "NoHalf"))

    def test_what_brings_no_more_is_done_to_400(self):
        self.assertEqual(len(drawn(grid(10, 10, True), 0)[0]), 398)
        self.assertEqual(len(drawn(ring(400), 399)[0]), 399)


if __name__ == "__main__":
    unittest.main()
