"""Point 10, and point 3 as far as it speaks of handles: parts, counts, totals."""

import unittest

from halfseams.counts import counts, parts, totals
from halfseams.walks import knots, patches, rims, seams
from tests.by_words import Cloth
from tests.checks import made_as_told
from tests.samples import (
    BY_HAND, grid, large_skins, middle_skins, net, one_of_each, opposite, renumbered, ring, side_by_side,
    single_patches, small_skins)

N = None
SINGLE = (1, 1, 1, 1, 0)

# In the order of BY_HAND: the parts, and their counts.
PARTS_BY_HAND = (
    (((0,),), (SINGLE,)),
    (((0, 1, 2),), ((3, 3, 1, 1, 0),)),
    (((0, 1, 2),), ((3, 3, 1, 1, 0),)),
    (((0,), (1,), (2,)), (SINGLE, SINGLE, SINGLE)),
    (((0, 1),), ((1, 1, 2, 0, 0),)),
    (((0, 1),), ((2, 1, 1, 0, 0),)),
    (((0, 1, 2),), ((2, 2, 1, 1, 0),)),
    ((tuple(range(6)),), ((4, 5, 2, 1, 0),)),
    ((tuple(range(6)),), ((3, 3, 2, 0, 0),)),
    (((0, 1, 2, 3),), ((1, 2, 1, 0, 1),)),
    (((0, 1, 2, 3),), ((2, 3, 1, 2, 0),)),
    ((tuple(range(8)),), ((4, 6, 2, 2, 0),)),
    ((tuple(range(9)),), ((5, 7, 3, 1, 0),)),
    ((tuple(range(12)),), ((4, 6, 4, 0, 0),)),
    (((0, 2, 4), (1,), (3, 5)), ((3, 3, 1, 1, 0), SINGLE, (2, 1, 1, 0, 0))),
)


class TestByHand(unittest.TestCase):
    def test_parts_and_counts(self):
        self.assertEqual(len(PARTS_BY_HAND), len(BY_HAND))
        for told, (all_parts, all_counts) in zip(BY_HAND, PARTS_BY_HAND):
            with self.subTest(told.name):
                self.assertEqual(parts(told.skin), all_parts)
                self.assertEqual(counts(told.skin), all_counts)

    def test_totals(self):
        self.assertEqual(totals(BY_HAND[0].skin), (1, 1, 1, 1, 0, 1))
        self.assertEqual(totals(BY_HAND[3].skin), (3, 3, 3, 3, 0, 3))
        self.assertEqual(totals(BY_HAND[9].skin), (1, 2, 1, 0, 1, 1))
        self.assertEqual(totals(BY_HAND[13].skin), (4, 6, 4, 0, 0, 1))
        self.assertEqual(totals(BY_HAND[14].skin), (6, 5, 3, 2, 0, 3))

    def test_parts_hang_together_by_onward_alone_and_by_mates_alone(self):
        self.assertEqual(parts(((3, 4, 5, 0, 1, 2), (N,) * 6)), ((0, 3), (1, 4), (2, 5)))
        self.assertEqual(parts(((0, 1, 2, 3, 4, 5), (5, 4, 3, 2, 1, 0))), ((0, 5), (1, 4), (2, 3)))
        self.assertEqual(parts(((0, 2, 1, 4, 3, 5), (N, N, 3, 2, 5, 4))), ((0,), (1, 2, 3, 4, 5)))

    def test_a_part_in_which_greater_ones_lead_to_lesser_ones(self):
        # From 0 one comes to 5, its mate; then to 1, behind 5; then to 4, the mate of 1.
        self.assertEqual(parts(((0, 5, 2, 3, 4, 1), (5, 4, 3, 2, 1, 0))), ((0, 1, 4, 5), (2, 3)))


class TestKnownKinds(unittest.TestCase):
    def test_balls(self):
        self.assertEqual(counts(((0, 1), (1, 0))), ((1, 1, 2, 0, 0),))
        self.assertEqual(counts(BY_HAND[8].skin), ((3, 3, 2, 0, 0),))
        # One patch whose halves lie on one another: 200 mates in a row back and forth.
        mates = tuple(399 - half for half in range(400))
        self.assertEqual(counts((ring(400)[0], mates)), ((201, 200, 1, 0, 0),))

    def test_a_net_with_one_rim(self):
        self.assertEqual(counts(grid(10, 10, False)), ((121, 220, 100, 1, 0),))
        self.assertEqual(counts(grid(2, 3, False)), ((12, 17, 6, 1, 0),))

    def test_a_net_closed_one_way_round_has_two_rims(self):
        self.assertEqual(counts(net(10, 10, False, True)), ((110, 210, 100, 2, 0),))
        self.assertEqual(counts(net(10, 10, True, False)), ((110, 210, 100, 2, 0),))
        self.assertEqual(counts(net(1, 3, False, True)), ((6, 9, 3, 2, 0),))

    def test_a_net_closed_both_ways_round_has_one_handle(self):
        self.assertEqual(counts(grid(10, 10, True)), ((100, 200, 100, 0, 1),))
        self.assertEqual(counts(grid(1, 1, True)), ((1, 2, 1, 0, 1),))
        self.assertEqual(counts(grid(1, 7, True)), ((7, 14, 7, 0, 1),))

    def test_one_patch_of_mates_with_several_handles(self):
        # Each half seam mated with the one across: one knot where the seams are even, else two.
        self.assertEqual(counts(opposite(2)), ((2, 1, 1, 0, 0),))
        self.assertEqual(counts(opposite(4)), ((1, 2, 1, 0, 1),))
        self.assertEqual(counts(opposite(6)), ((2, 3, 1, 0, 1),))
        self.assertEqual(counts(opposite(8)), ((1, 4, 1, 0, 2),))
        self.assertEqual(counts(opposite(10)), ((2, 5, 1, 0, 2),))
        self.assertEqual(counts(opposite(400)), ((1, 200, 1, 0, 100),))
        self.assertEqual(counts(opposite(398)), ((2, 199, 1, 0, 99),))

    def test_a_handle_and_a_rim(self):
        self.assertEqual(counts((ring(5)[0], (2, 3, 0, 1, N))), ((1, 3, 1, 1, 1),))
        self.assertEqual(totals((ring(5)[0], (2, 3, 0, 1, N))), (1, 3, 1, 1, 1, 1))

    def test_rims_alone(self):
        self.assertEqual(counts(ring(400)), ((400, 400, 1, 1, 0),))
        self.assertEqual(parts(single_patches(400)), tuple((half,) for half in range(400)))
        self.assertEqual(counts(single_patches(400)), (SINGLE,) * 400)
        self.assertEqual(totals(single_patches(400)), (400, 400, 400, 400, 0, 400))

    def test_parts_beside_one_another(self):
        skin = side_by_side(opposite(8), ring(3), grid(1, 1, True), ((0, 1), (1, 0)), opposite(4))
        self.assertEqual(parts(skin), (tuple(range(8)), (8, 9, 10), (11, 12, 13, 14), (15, 16), (17, 18, 19, 20)))
        self.assertEqual(counts(skin), (
            (1, 4, 1, 0, 2), (3, 3, 1, 1, 0), (1, 2, 1, 0, 1), (1, 1, 2, 0, 0), (1, 2, 1, 0, 1)))
        self.assertEqual(totals(skin), (7, 12, 6, 1, 4, 5))


class TestMany(unittest.TestCase):
    def assert_as_the_words_say(self, skin):
        told = counts(skin)
        cloth = Cloth(skin)
        self.assertEqual(parts(skin), cloth.parts())
        self.assertEqual(told, cloth.counts())
        self.assertEqual(totals(skin), cloth.totals())

    def assert_fit_together(self, skin):
        all_parts, told, whole = parts(skin), counts(skin), totals(skin)
        self.assertTrue(made_as_told((all_parts, told, whole)))
        self.assertEqual(sorted(half for part in all_parts for half in part), list(range(len(skin[0]))))
        self.assertEqual([part[0] for part in all_parts], sorted(min(part) for part in all_parts))
        for part in all_parts:
            self.assertEqual(list(part), sorted(part))
        self.assertEqual(len(told), len(all_parts))
        for many_knots, many_seams, many_patches, many_rims, handles in told:
            self.assertGreaterEqual(handles, 0)
            self.assertEqual(2 * handles, 2 - many_knots + many_seams - many_patches - many_rims)
        self.assertEqual(whole, tuple(sum(row[kind] for row in told) for kind in range(5)) + (len(told),))
        self.assertEqual(whole[:4], tuple(len(walks(skin)) for walks in (knots, seams, patches, rims)))

    def test_small_skins(self):
        for skin in small_skins(4):
            self.assert_as_the_words_say(skin)
            self.assert_fit_together(skin)
        for many in (5, 6):
            for skin in one_of_each(many):
                self.assert_as_the_words_say(skin)
                self.assert_fit_together(skin)

    def test_middle_skins(self):
        for skin in middle_skins():
            self.assert_as_the_words_say(skin)
            self.assert_fit_together(skin)

    def test_large_skins(self):
        for skin in large_skins():
            self.assert_fit_together(skin)

    def test_other_numbers_change_no_totals(self):
        for seed, skin in enumerate(middle_skins() + large_skins()):
            other, new = renumbered(skin, seed)
            self.assertEqual(totals(other), totals(skin))
            self.assertEqual(sorted(counts(other)), sorted(counts(skin)))
            self.assertEqual(parts(other), tuple(sorted(tuple(sorted(new[half] for half in part))
                                                        for part in parts(skin))))


if __name__ == "__main__":
    unittest.main()
