"""Point 36, and point 3 as far as it speaks of it: rows of turned seams."""

import unittest

from halfseams.byknots import by_knots
from halfseams.counts import totals
from halfseams.cuts import turned
from halfseams.errors import SkinError
from halfseams.forms import mirrored, told_form
from halfseams.rows import fewest_row, forms_many, walked
from halfseams.skins import is_skin
from tests.by_words import behind
from tests.checks import made_as_told, outcome
from tests.rows_of_knots import double_tent
from tests.samples import (
    BALL, HANDLE, LONE, PATCH_OF_MATES, PILLOW, PURSE, TUBE, TWO_SINGLES, TWO_TRIANGLES, all_matings, grid, middle_skins,
    net, opposite, renumbered, ring, shuffled, side_by_side, single_patches, small_skins, triangles)

N = None
# Two triangles with one handle: all three seams lead across.
ONE_HANDLE = ((1, 2, 0, 4, 5, 3), (3, 4, 5, 0, 1, 2))
# The pillow with one seam turned: two patches each of which is sewn to itself.
TWO_CONES = ((1, 2, 0, 4, 5, 3), (3, 2, 1, 0, 5, 4))


def fit_skins(many):
    """Of skins of one part, of so many triangles, without rims, one of each kind, by told forms."""
    onward = side_by_side(*[ring(3)] * many)[0]
    found = {}
    if many < 6:
        matings = [tuple(mating[half] for half in range(3 * many)) for mating in all_matings(list(range(3 * many)))
                   if N not in mating.values()]
        skins = [(onward, mates) for mates in matings]
    else:
        skins = [triangles(many, 9, seed) for seed in range(3000)]
    for skin in skins:
        if totals(skin)[5] == 1:
            found.setdefault(told_form(skin), skin)
    return found


def forms_beside(skin):
    """The told forms of all skins that are the skin with one half seam turned."""
    found = set()
    for half in range(len(skin[0])):
        try:
            found.add(told_form(turned(skin, half)))
        except SkinError:
            pass
    return found


def steps_from(form, beside):
    """How many turned seams, at least, lead from a told form to each other one, by going on from form to form."""
    steps = {form: 0}
    edge = [form]
    while edge:
        many = steps[edge[0]] + 1
        edge = sorted({there for here in edge for there in beside[here] if there not in steps})
        steps.update({there: many for there in edge})
    return steps


class Fits:
    """All kinds of fit skins, and which of them lie beside one another; worked out once."""

    found = None

    @classmethod
    def get(cls):
        if cls.found is None:
            kinds = {}
            for many in (2, 4, 6):
                kinds.update(fit_skins(many))
            cls.found = kinds, {form: forms_beside(skin) for form, skin in kinds.items()}
        return cls.found


class TestFewestRow(unittest.TestCase):
    def assert_row(self, one, other, length):
        told = fewest_row(one, other)
        self.assertTrue(type(told) is tuple and made_as_told(told) and len(told) == length, told)
        self.assertEqual(told_form(walked(one, told)), told_form(other))
        self.assertEqual(fewest_row(one, other), told)

    def test_two_patches(self):
        self.assertEqual(fewest_row(PILLOW, PILLOW), ())
        self.assertEqual(fewest_row(ONE_HANDLE, ONE_HANDLE), ())
        self.assertEqual(fewest_row(TWO_CONES, renumbered(TWO_CONES, 3)[0]), ())
        self.assert_row(PILLOW, TWO_CONES, 1)
        self.assert_row(TWO_CONES, PILLOW, 1)
        # Of the two cones only the seam of 0 and 3 lies between two patches.
        self.assertIn(fewest_row(TWO_CONES, PILLOW), ((0,), (3,)))
        self.assertIsNone(fewest_row(PILLOW, ONE_HANDLE))
        self.assertIsNone(fewest_row(ONE_HANDLE, PILLOW))
        self.assertIsNone(fewest_row(ONE_HANDLE, TWO_CONES))

    def test_other_numbers_change_no_length(self):
        for seed in range(10):
            self.assert_row(renumbered(PILLOW, seed)[0], renumbered(TWO_CONES, seed + 1)[0], 1)
            self.assert_row(renumbered(TWO_CONES, seed)[0], PILLOW, 1)
            self.assert_row(renumbered(BALL, seed)[0], renumbered(BALL, seed + 1)[0], 0)

    def test_as_many_patches_but_not_knots(self):
        for skin in (BALL, PILLOW, ONE_HANDLE, triangles(4, 6, 1), triangles(6, 9, 2)):
            for other in (PILLOW, ONE_HANDLE, BALL):
                if totals(skin) != totals(other) and totals(skin)[5] == 1:
                    self.assertIsNone(fewest_row(skin, other))

    def test_all_pairs(self):
        kinds, beside = Fits.get()
        skins = list(kinds.values())
        for at, (form, skin) in enumerate(kinds.items()):
            steps = steps_from(form, beside)
            others = list(kinds.items())
            # All pairs of two and four patches; of six each with some.
            if len(skin[0]) == 18:
                others = shuffled(others, at)[:9] + [(told_form(mirrored(skin)), mirrored(skin))]
            for goal, other in others:
                row = fewest_row(skin, renumbered(other, at)[0])
                same = totals(skin)[0] == totals(other)[0] and totals(skin)[4] == totals(other)[4]
                self.assertEqual(row is not None, same, (skin, other))
                self.assertEqual(goal in steps, same)
                if same:
                    self.assertEqual(told_form(walked(skin, row)), goal)
                    self.assertEqual(len(row), steps[goal], (skin, other))
                    self.assertTrue(type(row) is tuple and made_as_told(row))
        self.assertEqual(len(skins), 2 + 1 + 6 + 5 + 26 + 46 + 9)

    def test_a_row_back_is_as_long(self):
        kinds, beside = Fits.get()
        skins = list(kinds.values())
        for at, one in enumerate(skins):
            for other in shuffled(skins, at)[:4]:
                there, back = fewest_row(one, other), fewest_row(other, one)
                self.assertEqual(there is None, back is None)
                if there is not None:
                    self.assertEqual(len(there), len(back))


class TestFormsMany(unittest.TestCase):
    def test_known_ones(self):
        for skin, wanted in ((PILLOW, 2), (TWO_CONES, 2), (ONE_HANDLE, 1), (BALL, 6), (by_knots(double_tent(3)), 26)):
            told = forms_many(skin)
            self.assertEqual(told, wanted)
            self.assertIs(type(told), int)

    def test_alike_from_all_ends(self):
        kinds, beside = Fits.get()
        many = {}
        for form, skin in kinds.items():
            told = totals(skin)
            many.setdefault(told, []).append((form, skin))
        self.assertEqual({told: len(found) for told, found in many.items()}, {
            (3, 3, 2, 0, 0, 1): 2, (1, 3, 2, 0, 1, 1): 1, (4, 6, 4, 0, 0, 1): 6, (2, 6, 4, 0, 1, 1): 5,
            (5, 9, 6, 0, 0, 1): 26, (3, 9, 6, 0, 1, 1): 46, (1, 9, 6, 0, 2, 1): 9})
        for found in many.values():
            for form, skin in found[::4] + found[-1:]:
                self.assertEqual(forms_many(skin), len(found))
                self.assertEqual(len(steps_from(form, beside)), len(found))


class TestUnfit(unittest.TestCase):
    UNFIT = (
        # At rims.
        LONE, ring(3), TWO_TRIANGLES, PURSE, side_by_side(ring(3), ring(3)),
        # Of several parts.
        side_by_side(PILLOW, PILLOW), side_by_side(ONE_HANDLE, PILLOW), side_by_side(PILLOW, BALL),
        # A patch that has not three.
        TWO_SINGLES, PATCH_OF_MATES, HANDLE, TUBE, ((1, 0, 3, 2), (2, 3, 0, 1)), opposite(6), net(1, 1, True, True),
        ((1, 2, 0, 4, 5, 3, 7, 6), (6, 5, 4, 7, 2, 1, 0, 3)), ((1, 2, 0, 3), (1, 0, 3, 2)),
        # More than six patches.
        by_knots(double_tent(4)), by_knots(double_tent(5)), side_by_side(*[PILLOW] * 4), side_by_side(BALL, BALL),
        # All at once.
        side_by_side(BALL, BALL, LONE), grid(10, 10, True), ring(400), single_patches(400), triangles(133, 100, 1))

    def test_on_either_side(self):
        for skin in self.UNFIT:
            self.assertTrue(is_skin(skin), skin)
            self.assertEqual(outcome(forms_many, skin), "Unfit", skin)
            for other in (PILLOW, ONE_HANDLE, BALL, skin):
                self.assertEqual(outcome(fewest_row, skin, other), "Unfit", skin)
                self.assertEqual(outcome(fewest_row, other, skin), "Unfit", skin)

    def test_one_fault_alone(self):
        onward, mates = BALL
        for half, mate in enumerate(mates):
            if half < mate:
                torn = tuple(N if one in (half, mate) else mates[one] for one in range(12))
                self.assertEqual(outcome(forms_many, (onward, torn)), "Unfit")
        eight = by_knots(double_tent(4))
        self.assertEqual((totals(eight)[2], len(eight[0])), (8, 24))
        self.assertEqual(outcome(fewest_row, eight, eight), "Unfit")
        six = by_knots(double_tent(3))
        self.assertEqual((totals(six)[2], fewest_row(six, six)), (6, ()))

    def test_only_fit_ones_of_many(self):
        for skin in list(small_skins(4)) + middle_skins():
            lengths_fit = all(skin[0][skin[0][skin[0][half]]] == half != skin[0][half] for half in range(len(skin[0])))
            fit = lengths_fit and N not in skin[1] and len(skin[0]) <= 18 and totals(skin)[5] == 1
            self.assertEqual(outcome(forms_many, skin) != "Unfit", fit, skin)


class TestWalked(unittest.TestCase):
    def test_by_hand(self):
        self.assertEqual(walked(TWO_TRIANGLES, (0,)), ((2, 3, 4, 5, 0, 1), TWO_TRIANGLES[1]))
        self.assertEqual(walked(TWO_TRIANGLES, (3,)), ((2, 3, 4, 5, 0, 1), TWO_TRIANGLES[1]))
        # Turned twice, h and its mate have changed places: (0, 4, 5) and (3, 1, 2).
        self.assertEqual(walked(TWO_TRIANGLES, (0, 3)), ((4, 2, 3, 1, 5, 0), TWO_TRIANGLES[1]))
        self.assertEqual(walked(TWO_TRIANGLES, (0,) * 4), TWO_TRIANGLES)
        self.assertEqual(walked(PILLOW, (0,)), turned(PILLOW, 0))

    def test_no_half_seam_in_the_row(self):
        for skin in (LONE, BALL, ring(400), single_patches(400), grid(10, 10, False)):
            self.assertEqual(walked(skin, ()), skin)

    def test_the_first_that_can_not_be_turned(self):
        for skin, row, wanted in (
                (TWO_TRIANGLES, (6,), "NoHalf"), (TWO_TRIANGLES, (-1,), "NoHalf"), (TWO_TRIANGLES, (1,), "rim"),
                (TWO_TRIANGLES, (0, 0, 6, 1), "NoHalf"), (TWO_TRIANGLES, (0, 0, 1, 6), "rim"),
                (TWO_TRIANGLES, (1, 999999999), "rim"), (TWO_TRIANGLES, (999999999, 1), "NoHalf"),
                (TWO_CONES, (1,), "one"), (TWO_CONES, (1, 6), "one"), (TWO_CONES, (6, 1), "NoHalf"),
                # Turned, the seam of the cone at 1 and 2 lies between two patches.
                (TWO_CONES, (0, 4, 9), "NoHalf"), (TWO_SINGLES, (0,), "three"), (TWO_SINGLES, (0, 5), "three"),
                (PATCH_OF_MATES, (1,), "one"), (LONE, (0,), "rim"), (LONE, (1, 0), "NoHalf"),
                (side_by_side(BALL, TWO_SINGLES), (0, 4, 12, 99), "three"), (HANDLE, (3,), "one"),
                (grid(10, 10, True), (0,), "three")):
            self.assertEqual(outcome(walked, skin, row), wanted, (skin, row))

    def test_refused_only_behind_others(self):
        # The pillow's 1 can be turned at first, but behind 0 the seams of 1 and of 2 are sewn into their own patches.
        self.assertEqual(told_form(walked(PILLOW, (1,))), told_form(TWO_CONES))
        self.assertEqual(outcome(walked, PILLOW, (0, 1)), "one")
        self.assertEqual(outcome(walked, PILLOW, (0, 0, 1)), walked(PILLOW, (0, 0, 1)))

    def test_in_any_skin_one_by_one(self):
        for seed in range(80):
            skin = triangles(2 + seed, seed * 3 % (3 * (2 + seed) // 2 + 1), seed)
            there = skin
            row = []
            for half in shuffled(range(len(skin[0])), seed)[:30]:
                if not isinstance(outcome(turned, there, half), str):
                    there = behind(there, ("turn", half))
                    row.append(half)
            told = walked(skin, tuple(row))
            self.assertEqual(told, there)
            self.assertTrue(is_skin(told) and made_as_told(told))
            self.assertEqual(totals(told), totals(skin))

    def test_long_rows(self):
        self.assertEqual(walked(BALL, (0,) * 4000), BALL)


if __name__ == "__main__":
    unittest.main()
