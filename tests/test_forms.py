"""Points 26 to 28, and point 3 as far as it speaks of alike skins: forms, leads, and the mirror."""

import unittest
from itertools import permutations
from math import factorial

from halfseams.byknots import by_knots
from halfseams.counts import parts
from halfseams.forms import form_from, lead, leads_many, mirrored, told_form
from halfseams.skins import is_skin
from tests.checks import made_as_told, outcome
from tests.rows_of_knots import BALL_ROWS, CUBE_ROWS, SEVEN_ROWS, double_tent, twenty_rows
from tests.samples import (
    BALL, BY_HAND, FAN, HANDLE, LONE, PATCH_OF_MATES, PILLOW, PURSE, TUBE, TWO_SINGLES, TWO_SQUARES, TWO_TRIANGLES,
    grid, large_skins, middle_skins, mixed_skin, one_of_each, opposite, renumbered, ring, side_by_side, single_patches,
    small_skins)

N = None
WOVEN = BY_HAND[14].skin
# One patch of six that is not alike with itself in the mirror: behind the mates 0 and 1 comes one with a mate.
LOPSIDED = (ring(6)[0], (1, 0, 4, N, 2, N))


def form_by_the_words(skin, half):
    """The form of a skin from half, with the numbers kept in a dict."""
    onward, mates = skin
    numbers = {half: 0}
    for place in range(len(onward)):
        here = [one for one, number in numbers.items() if number == place]
        if here:
            for other in (onward[here[0]], mates[here[0]]):
                if other is not None and other not in numbers:
                    numbers[other] = len(numbers)
    order = sorted(numbers, key=lambda one: numbers[one])
    return (tuple(numbers[onward[one]] for one in order),
            tuple(-1 if mates[one] is None else numbers[mates[one]] for one in order))


def is_lead(one, other, goes):
    """Whether by the tuple goes what comes behind, and mates, and none, go to such."""
    for half, there in enumerate(goes):
        if goes[one[0][half]] != other[0][there]:
            return False
        mate = one[1][half]
        if (None if mate is None else goes[mate]) != other[1][there]:
            return False
    return True


def all_leads(one, other):
    """All tuples that lead from one skin to the other, found by trying all."""
    many = len(one[0])
    if many != len(other[0]):
        return []
    return [goes for goes in permutations(range(many)) if is_lead(one, other, goes)]


def turned_round(skin):
    """The skin in which left of each half seam comes behind it: knots become patches."""
    onward, mates = skin
    ahead = {behind: half for half, behind in enumerate(onward)}
    return tuple(mates[ahead[half]] for half in range(len(onward))), mates


class TestFormFrom(unittest.TestCase):
    def test_by_hand(self):
        for skin, half, wanted in (
                (LONE, 0, ((0,), (-1,))),
                (single_patches(3), 2, ((0,), (-1,))),
                (ring(3), 0, ((1, 2, 0), (-1, -1, -1))),
                (((2, 0, 1), (N, N, N)), 1, ((1, 2, 0), (-1, -1, -1))),
                (TWO_SINGLES, 0, ((0, 1), (1, 0))),
                (TWO_SINGLES, 1, ((0, 1), (1, 0))),
                (PATCH_OF_MATES, 1, ((1, 0), (1, 0))),
                (PURSE, 0, ((1, 2, 0), (1, 0, -1))),
                # From 1: behind it 2, then its mate 0.
                (PURSE, 1, ((1, 2, 0), (2, -1, 0))),
                (PURSE, 2, ((1, 2, 0), (-1, 2, 1))),
                # From 0: 1 behind it, 3 its mate, then 2, 4, 5.
                (TWO_TRIANGLES, 0, ((1, 3, 4, 0, 5, 2), (2, -1, 0, -1, -1, -1))),
                (TWO_TRIANGLES, 3, ((1, 3, 4, 0, 5, 2), (2, -1, 0, -1, -1, -1))),
                (TWO_TRIANGLES, 1, ((1, 2, 0, 4, 5, 3), (-1, -1, 3, 2, -1, -1))),
                (TWO_TRIANGLES, 2, ((1, 2, 0, 4, 5, 3), (-1, 3, -1, 1, -1, -1))),
                # From 0: 1 behind it, 2 its mate; then 3, the mate of 1.
                (HANDLE, 0, ((1, 2, 3, 0), (2, 3, 0, 1))),
                (TUBE, 0, ((1, 2, 3, 0), (-1, 3, -1, 1))),
                (WOVEN, 3, ((1, 0), (1, 0))),
                (WOVEN, 4, ((1, 2, 0), (-1, -1, -1)))):
            self.assertEqual(form_from(skin, half), wanted, (skin, half))

    def test_what_is_behind_gets_its_number_ahead_of_the_mate(self):
        # From 0: 3 behind it, 2 its mate, then 1 behind 3.
        self.assertEqual(form_from(((3, 2, 0, 1), (2, 3, 0, 1)), 0), ((1, 3, 0, 2), (2, 3, 0, 1)))

    def test_only_its_part(self):
        skin = side_by_side(BALL, PURSE, LONE)
        self.assertEqual(form_from(skin, 12), form_from(PURSE, 0))
        self.assertEqual(form_from(skin, 15), ((0,), (-1,)))
        self.assertEqual(len(form_from(skin, 5)[0]), 12)

    def test_many_as_the_words_say(self):
        for skin in list(small_skins(4)) + list(one_of_each(6)) + middle_skins():
            for half in range(len(skin[0])):
                told = form_from(skin, half)
                self.assertEqual(told, form_by_the_words(skin, half), (skin, half))
                self.assertTrue(made_as_told(told))

    def test_no_half(self):
        for skin in (LONE, BALL, ring(400)):
            many = len(skin[0])
            for number in (-1, -many, many, 999999999, -999999999):
                self.assertEqual(outcome(form_from, skin, number), "NoHalf")


class TestToldForm(unittest.TestCase):
    def test_by_hand(self):
        for skin, wanted in (
                (LONE, (((0,), (-1,)),)),
                (single_patches(3), (((0,), (-1,)),) * 3),
                (PURSE, (((1, 2, 0), (-1, 2, 1)),)),
                (TWO_TRIANGLES, (((1, 2, 0, 4, 5, 3), (-1, -1, 3, 2, -1, -1)),)),
                (WOVEN, (((0,), (-1,)), ((1, 0), (1, 0)), ((1, 2, 0), (-1, -1, -1)))),
                (side_by_side(PURSE, PATCH_OF_MATES, TWO_SINGLES, LONE, ring(2), PURSE), (
                    ((0,), (-1,)), ((0, 1), (1, 0)), ((1, 0), (-1, -1)), ((1, 0), (1, 0)),
                    ((1, 2, 0), (-1, 2, 1)), ((1, 2, 0), (-1, 2, 1))))):
            self.assertEqual(told_form(skin), wanted, skin)

    def test_many_as_the_words_say(self):
        for skin in list(small_skins(4)) + list(one_of_each(6)) + middle_skins():
            told = told_form(skin)
            self.assertTrue(made_as_told(told))
            self.assertEqual(told, tuple(sorted(
                min(form_by_the_words(skin, half) for half in part) for part in parts(skin))))

    def test_in_another_order(self):
        for seed, skin in enumerate(middle_skins() + large_skins()):
            self.assertEqual(told_form(renumbered(skin, seed)[0]), told_form(skin))
        for skin in (PURSE, FAN, LOPSIDED, HANDLE):
            for seed in range(20):
                self.assertEqual(told_form(renumbered(skin, seed)[0]), told_form(skin))

    def test_in_the_mirror(self):
        self.assertNotEqual(told_form(mirrored(LOPSIDED)), told_form(LOPSIDED))
        for skin in (BALL, PURSE, TWO_TRIANGLES, FAN, HANDLE, TUBE, by_knots(CUBE_ROWS), by_knots(twenty_rows())):
            self.assertEqual(told_form(mirrored(skin)), told_form(skin))
        # Seven knots, each two with a seam: all half seams are alike, yet the mirror is another one.
        seven = by_knots(SEVEN_ROWS)
        self.assertEqual(len({form_from(seven, half) for half in range(42)}), 1)
        self.assertNotEqual(told_form(mirrored(seven)), told_form(seven))

    def test_with_one_mate_or_onward_otherwise(self):
        onward, mates = BALL
        self.assertNotEqual(told_form((onward, (N,) + mates[1:8] + (N,) + mates[9:])), told_form(BALL))
        # 8 and 11, the mates of 0 and 1, change places.
        self.assertNotEqual(told_form((onward, (11, 8, 3, 2, 10, 6, 5, 9, 1, 7, 4, 0))), told_form(BALL))
        self.assertNotEqual(told_form(((2, 0, 1) + onward[3:], mates)), told_form(BALL))
        self.assertNotEqual(told_form(TWO_TRIANGLES), told_form(side_by_side(ring(3), ring(3))))
        self.assertNotEqual(told_form(ring(4)), told_form(side_by_side(ring(3), LONE)))
        self.assertNotEqual(told_form((ring(4)[0], (1, 0, N, N))), told_form((ring(4)[0], (2, N, 0, N))))


class TestLead(unittest.TestCase):
    def test_by_hand(self):
        self.assertEqual(lead(LONE, LONE), (0,))
        self.assertEqual(lead(ring(3), ((2, 0, 1), (N, N, N))), (0, 2, 1))
        self.assertEqual(lead(PURSE, ((2, 0, 1), (N, 2, 1))), (2, 1, 0))
        # In the other one 1 and 2 are mates, and behind 1 comes 2: so 0 goes to 1.
        self.assertEqual(lead(PURSE, ((1, 2, 0), (N, 2, 1))), (1, 2, 0))
        self.assertEqual(lead(TWO_TRIANGLES, TWO_TRIANGLES), (0, 1, 2, 3, 4, 5))
        self.assertEqual(lead(single_patches(3), single_patches(3)), (0, 1, 2))

    def test_parts_go_to_the_first_that_is_alike(self):
        one = side_by_side(LONE, ring(3), LONE, ring(3))
        other = side_by_side(ring(3), LONE, ring(3), LONE)
        self.assertEqual(lead(one, other), (3, 0, 1, 2, 7, 4, 5, 6))
        self.assertEqual(lead(other, one), (1, 2, 3, 0, 5, 6, 7, 4))

    def test_woven_parts(self):
        # The parts of the first are 0, 3 and 1, 2; those of the other 0, 1 and 2, 3.
        self.assertEqual(lead(((3, 2, 1, 0), (N,) * 4), ((1, 0, 3, 2), (N,) * 4)), (0, 2, 3, 1))

    def test_not_alike(self):
        for one, other in ((LONE, ring(2)), (ring(3), PURSE), (ring(4), side_by_side(ring(3), LONE)),
                           (LOPSIDED, mirrored(LOPSIDED)), (TWO_SINGLES, PATCH_OF_MATES),
                           (side_by_side(LONE, LONE, PURSE), side_by_side(LONE, PURSE, PURSE)),
                           (side_by_side(LONE, ring(2)), side_by_side(LONE, PATCH_OF_MATES)),
                           (side_by_side(ring(2), LONE, LONE), side_by_side(ring(2), ring(2))),
                           (ring(400), ring(399)), (ring(400), single_patches(400))):
            self.assertIsNone(lead(one, other))
            self.assertIsNone(lead(other, one))

    def assert_as_by_trying(self, one, other):
        found = all_leads(one, other)
        told = lead(one, other)
        self.assertEqual(told, found[0] if found else None, (one, other))
        self.assertEqual(told_form(one) == told_form(other), bool(found), (one, other))
        self.assertTrue(made_as_told(told))

    def test_all_small_ones_by_trying_all(self):
        skins = list(small_skins(3))
        for one in skins:
            for other in skins:
                self.assert_as_by_trying(one, other)

    def test_up_to_six_by_trying_all(self):
        skins = list(one_of_each(5))[::5] + list(one_of_each(6))[::9]
        for seed, skin in enumerate(skins):
            self.assert_as_by_trying(skin, renumbered(skin, seed)[0])
            self.assert_as_by_trying(renumbered(skin, seed + 5)[0], skin)
            self.assert_as_by_trying(skin, skins[(seed + 1) % len(skins)])
            self.assert_as_by_trying(skin, mirrored(skin))
        for seed in range(60):
            many = 5 + seed % 2
            self.assert_as_by_trying(mixed_skin(many, seed % 3, seed), mixed_skin(many, seed % 3, seed + 60))

    def test_large_ones(self):
        for seed, skin in enumerate(middle_skins() + large_skins()):
            other, new = renumbered(skin, seed)
            told = lead(skin, other)
            self.assertEqual(sorted(told), list(range(len(new))))
            self.assertTrue(is_lead(skin, other, told))
            self.assertLessEqual(told, new)
            self.assertTrue(is_lead(other, skin, lead(other, skin)))


class TestLeadsMany(unittest.TestCase):
    def test_known_ones(self):
        for skin, wanted in (
                (LONE, 1), (ring(3), 3), (ring(400), 400), (TWO_SINGLES, 2), (PATCH_OF_MATES, 2), (PURSE, 1),
                (TWO_TRIANGLES, 2), (PILLOW, 6), (FAN, 1), (TWO_SQUARES, 4), (HANDLE, 4), (LOPSIDED, 1),
                (opposite(8), 8), (BALL, 12), (by_knots(BALL_ROWS), 12), (by_knots(CUBE_ROWS), 24),
                (by_knots(double_tent(4)), 24),
                (by_knots(twenty_rows()), 60), (turned_round(by_knots(twenty_rows())), 60), (by_knots(SEVEN_ROWS), 42),
                (grid(10, 10, True), 400), (grid(3, 3, False), 4), (by_knots(double_tent(5)), 10)):
            self.assertEqual(leads_many(skin), wanted, skin)

    def test_twelve_patches_of_five(self):
        twelve = turned_round(by_knots(twenty_rows()))
        self.assertTrue(is_skin(twelve))
        self.assertEqual(sorted(len(part) for part in parts(twelve)), [60])
        self.assertEqual(leads_many(mirrored(twelve)), 60)

    def test_alike_parts_beside_one_another(self):
        self.assertEqual(leads_many(side_by_side(BALL, BALL)), 12 * 12 * 2)
        self.assertEqual(leads_many(side_by_side(BALL, LONE, BALL, PURSE, BALL, LONE)), 12 ** 3 * 6 * 2)
        self.assertEqual(leads_many(side_by_side(LOPSIDED, mirrored(LOPSIDED))), 1)
        self.assertEqual(leads_many(side_by_side(LOPSIDED, renumbered(LOPSIDED, 3)[0])), 2)
        self.assertEqual(leads_many(single_patches(400)), factorial(400))
        self.assertEqual(leads_many(side_by_side(*[PATCH_OF_MATES] * 200)), 2 ** 200 * factorial(200))

    def test_by_trying_all(self):
        for skin in list(small_skins(4)) + list(one_of_each(5))[::3] + list(one_of_each(6))[::7] + [WOVEN, TUBE]:
            told = leads_many(skin)
            self.assertEqual(told, len(all_leads(skin, skin)), skin)
            self.assertIs(type(told), int)


class TestMirrored(unittest.TestCase):
    def test_by_hand(self):
        self.assertEqual(mirrored(LONE), LONE)
        self.assertEqual(mirrored(ring(3)), ((2, 0, 1), (N, N, N)))
        self.assertEqual(mirrored(PURSE), ((2, 0, 1), (1, 0, N)))
        self.assertEqual(mirrored(TWO_TRIANGLES), ((2, 0, 1, 5, 3, 4), (3, N, N, 0, N, N)))

    def test_many(self):
        for skin in [told.skin for told in BY_HAND] + list(small_skins(4)) + middle_skins() + large_skins():
            told = mirrored(skin)
            self.assertTrue(is_skin(told) and made_as_told(told))
            self.assertEqual(told[1], skin[1])
            self.assertTrue(all(told[0][behind] == half for half, behind in enumerate(skin[0])))
            self.assertEqual(mirrored(told), skin)


if __name__ == "__main__":
    unittest.main()
