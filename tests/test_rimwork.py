"""Points 19 and 20, by hand: deeds at rims."""

import unittest

from halfseams.counts import totals
from halfseams.cuts import cut
from halfseams.rimwork import capped, opened, ripped, sewn
from tests.checks import Cases, changes
from tests.samples import (
    BALL, FAN, HANDLE, LONE, PATCH_OF_MATES, PILLOW, PURSE, TUBE, TWO_SINGLES, TWO_SQUARES, TWO_TRIANGLES, grid,
    opposite, ring, side_by_side, single_patches)

N = None
CAPPED_TRIANGLE = ((1, 2, 0, 5, 3, 4), (3, 4, 5, 0, 1, 2))
# One triangle amid three others, each of its half seams with a mate, each of its knots at the rim.
AMID_THREE = ((1, 2, 0, 4, 5, 3, 7, 8, 6, 10, 11, 9), (3, 6, 9, 0, N, N, 1, N, N, 2, N, N))
# Two triangles, all of whose half seams have one knot.
ONE_KNOT = cut(HANDLE, 0, 2)


class TestCapped(Cases):
    def test_a_rim_of_one(self):
        self.assert_told(
            capped,
            (LONE, (0,), TWO_SINGLES),
            (PURSE, (2,), ((1, 2, 0, 3), (1, 0, 3, 2))),
            (TUBE, (0,), ((1, 2, 3, 0, 4), (4, 3, N, 1, 0))),
            (TUBE, (2,), ((1, 2, 3, 0, 4), (N, 3, 4, 1, 2))),
            (single_patches(3), (1,), ((0, 1, 2, 3), (N, 3, N, 1))))

    def test_rims_of_more(self):
        self.assert_told(
            capped,
            (ring(2), (0,), ((1, 0, 3, 2), (2, 3, 0, 1))),
            (ring(2), (1,), ((1, 0, 3, 2), (3, 2, 1, 0))),
            (ring(3), (0,), CAPPED_TRIANGLE),
            (ring(3), (1,), ((1, 2, 0, 5, 3, 4), (5, 3, 4, 1, 2, 0))),
            # The rim of 4 is 4, 5, 1, 2.
            (TWO_TRIANGLES, (4,), ((1, 2, 0, 4, 5, 3, 9, 6, 7, 8), (3, 8, 9, 0, 6, 7, 4, 5, 1, 2))),
            (TWO_SQUARES, (6,), ((1, 2, 3, 0, 5, 6, 7, 4, 9, 8), (N, 7, 9, 5, N, 3, 8, 1, 6, 2))))

    def test_no_rim(self):
        self.assert_told(capped, (TWO_SINGLES, (0,), "NoRim"), (PURSE, (0,), "NoRim"), (BALL, (5,), "NoRim"),
                         (TWO_TRIANGLES, (3,), "NoRim"))

    def test_room(self):
        self.assertEqual(len(capped(ring(200), 7)[0]), 400)
        self.assertEqual(len(capped(single_patches(399), 7)[0]), 400)
        self.assert_told(capped, (ring(201), (7,), "TooMany"), (ring(400), (0,), "TooMany"),
                         (single_patches(400), (399,), "TooMany"))
        # The rim of a net of 9 by 10 squares has 38 half seams: with 360 that makes 398, and room for two more.
        net = grid(9, 10, False)
        self.assertEqual(len(capped(side_by_side(net, ring(2)), 0)[0]), 400)
        self.assert_told(capped, (side_by_side(net, ring(3)), (0,), "TooMany"))
        self.assertEqual(len(capped(side_by_side(net, ring(3)), 362)[0]), 366)

    def test_no_rim_goes_ahead_of_too_many(self):
        torus = grid(10, 10, True)
        self.assert_told(capped, (torus, (0,), "NoRim"), (torus, (400,), "NoHalf"), (ring(400), (400,), "NoHalf"))


class TestOpened(Cases):
    def test_opened(self):
        self.assert_told(
            opened,
            (TWO_SINGLES, (0,), LONE),
            (TWO_SINGLES, (1,), LONE),
            (CAPPED_TRIANGLE, (3,), ring(3)),
            (CAPPED_TRIANGLE, (4,), ring(3)),
            (CAPPED_TRIANGLE, (0,), ((2, 0, 1), (N, N, N))),
            (PILLOW, (5,), ring(3)),
            (BALL, (1,), ((1, 2, 0, 4, 5, 3, 7, 8, 6), (N, 7, 3, 2, 6, N, 4, 1, N))))

    def test_a_rim(self):
        self.assert_told(opened, (LONE, (0,), "rim"), (ring(3), (1,), "rim"), (TWO_TRIANGLES, (0,), "rim"),
                         (FAN, (3,), "rim"), (AMID_THREE, (3,), "rim"))

    def test_a_mate_in_the_patch(self):
        self.assert_told(opened, (PATCH_OF_MATES, (0,), "one"), (((1, 2, 0, 3), (1, 0, 3, 2)), (2,), "one"))

    def test_a_knot(self):
        self.assert_told(
            opened,
            (AMID_THREE, (0,), "knot"), (AMID_THREE, (2,), "knot"),
            (ONE_KNOT, (0,), "knot"), (ONE_KNOT, (5,), "knot"),
            (cut(opposite(8), 0, 4), (0,), "knot"),
            # Two patches of two that have two knots, each once.
            (((1, 0, 3, 2), (3, 2, 1, 0)), (0,), ring(2)))

    def test_one_knot_of_several_is_at_a_rim(self):
        # In the corner of a net of 3 by 3 squares, the middle one's knots all lie within.
        net = grid(3, 3, False)
        self.assertEqual(len(opened(net, 16)[0]), 32)
        # Where the middle one is away, the four beside it have no mates there.
        self.assert_told(opened, (opened(net, 16), (4,), "rim"))
        torus = grid(3, 3, True)
        # Those at two corners of the opened one have one knot at a rim.
        self.assert_told(opened, (opened(torus, 0), (12,), "knot"))

    def test_which_refusal_goes_first(self):
        self.assert_told(
            opened,
            # Rim and one; rim, one and knot.
            (PURSE, (0,), "rim"), (PURSE, (2,), "rim"), (TUBE, (1,), "rim"),
            ((ring(5)[0], (2, 3, 0, 1, N)), (0,), "rim"),
            # One and knot.
            (HANDLE, (0,), "one"), (opposite(8), (3,), "one"), (grid(1, 2, True), (0,), "one"),
            # Rim and knot.
            (FAN, (0,), "rim"))


class TestSewn(Cases):
    def assert_sewn(self, skin, half, other, wanted, changed):
        for one, two in ((half, other), (other, half)):
            self.assert_told(sewn, (skin, (one, two), wanted))
            self.assertEqual(changes(totals(skin), totals(sewn(skin, one, two))), changed)
            self.assert_told(ripped, (wanted, (one,), skin))

    def test_one_rim_of_just_these_two(self):
        self.assert_sewn(ring(2), 0, 1, PATCH_OF_MATES, (0, -1, 0, -1, 0, 0))
        self.assert_sewn(((1, 2, 3, 0), (1, 0, N, N)), 2, 3, ((1, 2, 3, 0), (1, 0, 3, 2)), (0, -1, 0, -1, 0, 0))

    def test_one_rim_the_one_behind_the_other(self):
        self.assert_sewn(ring(3), 0, 1, PURSE, (-1, -1, 0, 0, 0, 0))
        self.assert_sewn(ring(3), 2, 0, ((1, 2, 0), (2, N, 0)), (-1, -1, 0, 0, 0, 0))
        self.assert_sewn(((1, 0, 3, 4, 2), (2, N, 0, N, N)), 1, 3, ((1, 0, 3, 4, 2), (2, 3, 0, 1, N)),
                         (-1, -1, 0, 0, 0, 0))
        self.assert_sewn(TWO_TRIANGLES, 1, 5, ((1, 2, 0, 4, 5, 3), (3, 5, N, 0, N, 1)), (-1, -1, 0, 0, 0, 0))

    def test_one_rim_else(self):
        self.assert_sewn(ring(4), 1, 3, TUBE, (-2, -1, 0, 1, 0, 0))
        self.assert_sewn(ring(4), 0, 2, ((1, 2, 3, 0), (2, N, 0, N)), (-2, -1, 0, 1, 0, 0))
        self.assert_sewn(ring(400), 0, 200, (ring(400)[0], (200,) + (N,) * 199 + (0,) + (N,) * 199),
                         (-2, -1, 0, 1, 0, 0))

    def test_two_rims_of_one_half_seam_each(self):
        self.assert_sewn(single_patches(2), 0, 1, TWO_SINGLES, (-1, -1, 0, -2, 0, -1))
        self.assert_sewn(TUBE, 0, 2, HANDLE, (-1, -1, 0, -2, 1, 0))

    def test_two_rims_else(self):
        self.assert_sewn(side_by_side(ring(3), ring(3)), 0, 3, TWO_TRIANGLES, (-2, -1, 0, -1, 0, -1))
        self.assert_sewn(side_by_side(LONE, ring(3)), 0, 2, ((0, 2, 3, 1), (2, N, 0, N)), (-2, -1, 0, -1, 0, -1))
        self.assert_sewn(TWO_SQUARES, 0, 2, (TWO_SQUARES[0], (2, 7, 0, 5, N, 3, N, 1)), (-2, -1, 0, -1, 1, 0))

    def test_with_mates(self):
        self.assert_told(sewn, (PURSE, (0, 2), "NoRim"), (PURSE, (2, 0), "NoRim"), (PURSE, (0, 1), "NoRim"),
                         (BALL, (0, 8), "NoRim"))

    def test_one_and_the_same(self):
        self.assert_told(sewn, (LONE, (0, 0), "Unlike"), (PURSE, (2, 2), "Unlike"), (ring(400), (399, 399), "Unlike"),
                         # No rim goes ahead.
                         (PURSE, (0, 0), "NoRim"), (BALL, (3, 3), "NoRim"))


class TestRipped(Cases):
    def test_ripped(self):
        self.assert_told(
            ripped,
            (PATCH_OF_MATES, (0,), ring(2)),
            (TWO_SINGLES, (1,), single_patches(2)),
            (TWO_TRIANGLES, (3,), side_by_side(ring(3), ring(3))),
            (HANDLE, (2,), TUBE[:1] + ((N, 3, N, 1),)))

    def test_a_rim(self):
        self.assert_told(ripped, (LONE, (0,), "rim"), (PURSE, (2,), "rim"), (TWO_TRIANGLES, (4,), "rim"))


class TestBounds(Cases):
    def test_numbers_that_are_no_half_seams(self):
        for skin in (LONE, PURSE, BALL, ring(400), grid(10, 10, True)):
            many = len(skin[0])
            for number in (-1, -many, -many - 1, -999999999, many, many + 1, 999999999):
                for function in (capped, opened, ripped):
                    self.assert_told(function, (skin, (number,), "NoHalf"))
                for other in (0, many - 1, -1, many):
                    self.assert_told(sewn, (skin, (number, other), "NoHalf"), (skin, (other, number), "NoHalf"))
                self.assert_told(sewn, (skin, (number, number), "NoHalf"))


if __name__ == "__main__":
    unittest.main()
