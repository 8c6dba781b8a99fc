"""Point 3, and the words of points 6 to 9, over many skins."""

import unittest

from halfseams.walks import (
    ahead_of, knots, left_of, patch_of, patches, right_of, rim_of, rims, round_knot, seams)
from tests.by_words import classes
from tests.samples import BY_HAND, large_skins, middle_skins, small_skins


def many_skins():
    yield from (told.skin for told in BY_HAND)
    yield from small_skins(5)
    yield from middle_skins()
    yield from large_skins()


def steps(skin):
    """What is ahead, left and right of each half seam, straight from the words of point 6."""
    onward, mates = skin
    halves = range(len(onward))
    ahead = [0] * len(onward)
    for half in halves:
        ahead[onward[half]] = half
    left = [mates[ahead[half]] for half in halves]
    right = [None if mates[half] is None else onward[mates[half]] for half in halves]
    return ahead, left, right


class TestMany(unittest.TestCase):
    def assert_just_once(self, walks, halves):
        met = [half for walk in walks for half in walk]
        self.assertEqual(sorted(met), sorted(halves))

    def assert_by_least(self, walks):
        least = [min(walk) for walk in walks]
        self.assertEqual(least, sorted(least))

    def assert_knot(self, walk, mates, left, right):
        if right[walk[0]] is None:
            self.assertIsNone(left[walk[-1]])
            self.assertEqual([half for half in walk if mates[half] is None], [walk[0]])
        else:
            self.assertEqual(walk[0], min(walk))
            self.assertEqual(left[walk[-1]], walk[0])
            self.assertNotIn(None, [mates[half] for half in walk])
        for one, other in zip(walk, walk[1:]):
            self.assertEqual((left[one], right[other]), (other, one))

    def test_each_half_seam_lies_in_just_one_of_each(self):
        for skin in many_skins():
            halves = range(len(skin[0]))
            for function in (knots, seams, patches):
                walks = function(skin)
                self.assert_just_once(walks, halves)
                self.assert_by_least(walks)
            walks = rims(skin)
            self.assert_just_once(walks, [half for half in halves if skin[1][half] is None])
            self.assert_by_least(walks)

    def test_knots_hang_together_by_left_and_right(self):
        for skin in many_skins():
            ahead, left, right = steps(skin)
            links = [(half, other) for row in (left, right) for half, other in enumerate(row) if other is not None]
            walks = knots(skin)
            self.assertEqual(tuple(tuple(sorted(walk)) for walk in walks), classes(len(ahead), links))
            for walk in walks:
                self.assert_knot(walk, skin[1], left, right)

    def test_seams_patches_and_rims_walk_as_told(self):
        for skin in many_skins():
            onward, mates = skin
            for seam in seams(skin):
                self.assertIn(seam, ((seam[0], mates[seam[0]]), (seam[0],)))
                self.assertEqual(len(seam) == 1, mates[seam[0]] is None)
                self.assertEqual(seam[0], min(seam))
            for patch in patches(skin):
                self.assertEqual(patch[0], min(patch))
                self.assertEqual([onward[half] for half in patch], list(patch[1:] + patch[:1]))
            knot_of = {half: knot for knot in knots(skin) for half in knot}
            for rim in rims(skin):
                self.assertEqual(rim[0], min(rim))
                for half, behind in zip(rim, rim[1:] + rim[:1]):
                    mateless = [one for one in knot_of[onward[half]] if mates[one] is None]
                    self.assertEqual(mateless, [behind])

    def test_just_one_without_a_mate_ends_at_a_knot_at_a_rim(self):
        for skin in many_skins():
            onward, mates = skin
            knot_of = {half: knot for knot in knots(skin) for half in knot}
            ends = {knot: 0 for knot in knot_of.values()}
            for half, mate in enumerate(mates):
                if mate is None:
                    ends[knot_of[onward[half]]] += 1
            for knot, many in ends.items():
                self.assertEqual(many, 1 if mates[knot[0]] is None else 0)

    def test_from_each_half_seam_as_from_all(self):
        for skin in many_skins():
            if len(skin[0]) > 60:
                continue
            self.assert_from_each(skin, range(len(skin[0])))

    def test_from_some_half_seams_of_large_skins(self):
        for skin in large_skins():
            self.assert_from_each(skin, (0, 1, 199, 200, len(skin[0]) - 1))

    def assert_from_each(self, skin, halves):
        ahead, left, right = steps(skin)
        knot_of = {half: knot for knot in knots(skin) for half in knot}
        patch_at = {half: patch for patch in patches(skin) for half in patch}
        rim_at = {half: rim for rim in rims(skin) for half in rim}
        for half in halves:
            self.assertEqual(ahead_of(skin, half), ahead[half])
            self.assertEqual(left_of(skin, half), left[half])
            self.assertEqual(right_of(skin, half), right[half])
            knot = knot_of[half]
            if right[knot[0]] is None:
                self.assertEqual(round_knot(skin, half), knot)
            else:
                self.assert_begun(round_knot(skin, half), knot, half)
            self.assert_begun(patch_of(skin, half), patch_at[half], half)
            if skin[1][half] is None:
                self.assert_begun(rim_of(skin, half), rim_at[half], half)

    def assert_begun(self, told, walk, half):
        at = walk.index(half)
        self.assertEqual(told, walk[at:] + walk[:at])


if __name__ == "__main__":
    unittest.main()
