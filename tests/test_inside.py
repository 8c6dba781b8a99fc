"""Point 29, and point 3 as far as it speaks of it: skins turned inside out."""

import unittest

from halfseams.byknots import by_knots
from halfseams.counts import counts, parts, totals
from halfseams.forms import leads_many, told_form
from halfseams.inside import inside_out
from halfseams.skins import is_skin
from halfseams.walks import knots, left_of, patches
from tests.checks import Cases, made_as_told, outcome
from tests.rows_of_knots import CUBE_ROWS, SEVEN_ROWS, double_tent, twenty_rows
from tests.samples import (
    BALL, BY_HAND, HANDLE, LONE, PATCH_OF_MATES, PILLOW, PURSE, TUBE, TWO_SINGLES, TWO_SQUARES, TWO_TRIANGLES, grid,
    large_skins, middle_skins, mixed_skin, one_of_each, opposite, ring, side_by_side, single_patches, small_skins,
    triangles)

N = None


def many_skins():
    """Skins of all makes, with rims and without."""
    found = [told.skin for told in BY_HAND] + list(small_skins(4)) + list(one_of_each(6)) + middle_skins()
    found += large_skins() + [mixed_skin(many, many // 2, many) for many in range(2, 60, 2)]
    return found + [triangles(many, 3 * many // 2, many) for many in range(2, 40, 2)]


def in_the_mates_stead(skin):
    """The skin in which each half seam has its mate's number."""
    onward, mates = skin
    new_onward = {mates[half]: mates[behind] for half, behind in enumerate(onward)}
    new_mates = {mates[half]: mates[mate] for half, mate in enumerate(mates)}
    return tuple(new_onward[half] for half in sorted(new_onward)), tuple(new_mates[half] for half in sorted(new_mates))


class TestByHand(Cases):
    def test_small_ones(self):
        self.assert_told(
            inside_out,
            # One knot of two half seams becomes one patch of two, and the other way about.
            (TWO_SINGLES, (), ((1, 0), (1, 0))), (PATCH_OF_MATES, (), ((0, 1), (1, 0))),
            # Left of 0 lies 1, of 1 lies 2, and so round.
            (HANDLE, (), ((1, 2, 3, 0), (2, 3, 0, 1))),
            # Left of 0, 1, 2 lie 4, 3, 5, and the other way about.
            (PILLOW, (), ((4, 3, 5, 1, 0, 2), (3, 5, 4, 0, 2, 1))),
            (BALL, (), ((3, 8, 11, 6, 2, 10, 0, 5, 9, 1, 7, 4), BALL[1])),
            (side_by_side(TWO_SINGLES, PATCH_OF_MATES), (), ((1, 0, 2, 3), (1, 0, 3, 2))))

    def test_a_skin_with_rims(self):
        self.assert_told(
            inside_out, (LONE, (), "rim"), (PURSE, (), "rim"), (ring(3), (), "rim"), (TUBE, (), "rim"),
            (TWO_SQUARES, (), "rim"), (TWO_TRIANGLES, (), "rim"), (single_patches(400), (), "rim"),
            (grid(10, 10, False), (), "rim"), (side_by_side(BALL, LONE), (), "rim"),
            (side_by_side(LONE, BALL), (), "rim"), (side_by_side(BALL, PURSE, BALL), (), "rim"))

    def test_known_ones(self):
        # Eight patches of three round six knots are inside out six patches of four round eight.
        cube, eight = by_knots(CUBE_ROWS), by_knots(double_tent(4))
        self.assertEqual(told_form(inside_out(cube)), told_form(eight))
        self.assertEqual(told_form(inside_out(eight)), told_form(cube))
        self.assertEqual(told_form(inside_out(BALL)), told_form(BALL))
        self.assertEqual(counts(inside_out(by_knots(twenty_rows()))), ((20, 30, 12, 0, 0),))
        self.assertEqual(counts(inside_out(by_knots(SEVEN_ROWS))), ((14, 21, 7, 0, 1),))
        self.assertEqual(told_form(inside_out(grid(10, 10, True))), told_form(grid(10, 10, True)))
        self.assertEqual(leads_many(inside_out(by_knots(twenty_rows()))), 60)


class TestMany(unittest.TestCase):
    def test_left_comes_behind_and_mates_stay(self):
        for skin in many_skins():
            if N in skin[1]:
                self.assertEqual(outcome(inside_out, skin), "rim", skin)
                continue
            told = inside_out(skin)
            self.assertTrue(is_skin(told) and made_as_told(told))
            self.assertEqual(told[1], skin[1])
            self.assertEqual(told[0], tuple(left_of(skin, half) for half in range(len(skin[0]))))

    def test_knots_are_patches_and_patches_knots(self):
        for skin in many_skins():
            if N not in skin[1]:
                told = inside_out(skin)
                self.assertEqual(patches(told), knots(skin))
                self.assertEqual({frozenset(knot) for knot in knots(told)},
                                 {frozenset(skin[1][half] for half in patch) for patch in patches(skin)})
                self.assertEqual(parts(told), parts(skin))
                first, then = totals(skin), totals(told)
                self.assertEqual(then, (first[2], first[1], first[0], 0, first[4], first[5]))

    def test_twice(self):
        for skin in many_skins():
            if N not in skin[1]:
                twice = inside_out(inside_out(skin))
                self.assertEqual(twice, in_the_mates_stead(skin))
                self.assertEqual(inside_out(inside_out(twice)), skin)
        for skin in (BALL, HANDLE, opposite(40), grid(3, 4, True)):
            self.assertEqual(told_form(inside_out(inside_out(skin))), told_form(skin))


if __name__ == "__main__":
    unittest.main()
