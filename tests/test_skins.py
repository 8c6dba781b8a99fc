"""Points 4 and 5: what a skin is, and the first broken half seam."""

import unittest
from itertools import product

from halfseams.skins import broken, is_skin
from tests.samples import BY_HAND, grid, large_skins, middle_skins, ring, shuffled, single_patches, small_skins

N = None


def broken_by_the_words(onward, mates):
    """The least h of point 5, straight from its words."""
    halves = range(len(onward))
    for h in halves:
        mate = mates[h]
        if onward[h] not in halves or onward[h] in [onward[g] for g in range(h)]:
            return h
        if mate is not None and not (mate in halves and mate != h and mates[mate] == h):
            return h
    return None


def with_item(row, at, thing):
    return row[:at] + (thing,) + row[at + 1:]


class TestIsSkin(unittest.TestCase):
    def assert_skin(self, thing):
        self.assertIs(is_skin(thing), True, thing)

    def assert_no_skin(self, thing):
        self.assertIs(is_skin(thing), False, thing)

    def test_skins_told_by_hand(self):
        for told in BY_HAND:
            with self.subTest(told.name):
                self.assert_skin(told.skin)

    def test_all_small_and_many_other_skins(self):
        for skin in small_skins(4):
            self.assert_skin(skin)
        for skin in middle_skins() + large_skins():
            self.assert_skin(skin)

    def test_the_bounds_of_1_and_400_half_seams(self):
        self.assert_no_skin(((), ()))
        self.assert_skin(((0,), (N,)))
        self.assert_skin(ring(399))
        self.assert_skin(ring(400))
        self.assert_skin(single_patches(400))
        self.assert_skin(grid(10, 10, True))
        self.assert_no_skin(ring(401))
        self.assert_no_skin(single_patches(401))
        self.assert_no_skin(grid(10, 11, True))
        self.assert_no_skin(ring(5000))

    def test_tuples_not_as_long_as_one_another(self):
        self.assert_no_skin(((0, 1), (N,)))
        self.assert_no_skin(((0,), (N, N)))
        self.assert_no_skin(((0,), ()))
        self.assert_no_skin(((), (N,)))
        self.assert_no_skin((ring(400)[0], (N,) * 399))

    def test_not_just_two_tuples(self):
        self.assert_no_skin(())
        self.assert_no_skin(((0,),))
        self.assert_no_skin(((0,), (N,), ()))
        self.assert_no_skin(((0,), (N,), (N,)))
        self.assert_no_skin((((0,), (N,)),))
        self.assert_no_skin((0, N))

    def test_lists_in_the_place_of_tuples(self):
        self.assert_no_skin([(0,), (N,)])
        self.assert_no_skin(([0], (N,)))
        self.assert_no_skin(((0,), [N]))
        self.assert_no_skin(([0], [N]))
        self.assert_no_skin([[0], [N]])
        self.assert_no_skin((([0],), (N,)))
        self.assert_no_skin((((0,),), (N,)))
        self.assert_no_skin(((0,), ([N],)))
        self.assert_no_skin(((0,), ((),)))

    def test_truths_in_the_place_of_0_and_1(self):
        self.assert_skin(((1, 0), (1, 0)))
        self.assert_no_skin(((True, 0), (1, 0)))
        self.assert_no_skin(((1, False), (1, 0)))
        self.assert_no_skin(((1, 0), (True, 0)))
        self.assert_no_skin(((1, 0), (1, False)))
        self.assert_no_skin(((True, False), (True, False)))
        self.assert_no_skin(((False,), (N,)))
        self.assert_no_skin(((0,), (False,)))

    def test_an_onward_that_is_none(self):
        self.assert_no_skin(((0, 0), (N, N)))
        self.assert_no_skin(((1, 1), (N, N)))
        self.assert_no_skin(((0, 2), (N, N)))
        self.assert_no_skin(((-1, 0), (N, N)))
        self.assert_no_skin(((1, -2), (N, N)))
        self.assert_no_skin(((1,), (N,)))
        self.assert_no_skin(((-1,), (N,)))
        self.assert_no_skin(((10 ** 60,), (N,)))
        self.assert_no_skin(((N,), (N,)))
        self.assert_no_skin((("0",), (N,)))
        self.assert_no_skin(((0.0,), (N,)))

    def test_a_mate_that_is_none(self):
        self.assert_no_skin(((0,), (0,)))
        self.assert_no_skin(((1, 0), (0, 1)))
        self.assert_no_skin(((1, 0), (2, N)))
        self.assert_no_skin(((1, 0), (-1, N)))
        self.assert_no_skin(((1, 0), (-1, 0)))
        self.assert_no_skin(((1, 0), (1, -2)))
        self.assert_no_skin(((1, 0), (10 ** 60, N)))
        self.assert_no_skin(((1, 0), (1, N)))
        self.assert_no_skin(((1, 0), (N, 0)))
        self.assert_no_skin(((1, 2, 0), (1, 2, 1)))
        self.assert_no_skin(((1, 2, 0), (1, 2, 0)))
        self.assert_no_skin(((1, 2, 0), (1, 0, 0)))
        self.assert_no_skin(((0,), ("",)))
        self.assert_no_skin(((0,), ("0",)))
        self.assert_no_skin(((1, 0), (1.0, 0)))

    def test_one_fault_in_a_skin_of_400(self):
        onward, mates = grid(10, 10, True)
        for at in (0, 1, 200, 398, 399):
            for thing in (-1, 400, N, True, "1", onward[at - 1]):
                self.assert_no_skin((with_item(onward, at, thing), mates))
            for thing in (-1, 400, N, True, "1", at, mates[at - 1]):
                self.assert_no_skin((onward, with_item(mates, at, thing)))

    def test_single_things_of_each_kind(self):
        for thing in (0, 1, 2, -1, 10 ** 60, 1.5, "", "ab", "a skin", True, False, N, [], (), [[]], ((),), [()], ([],),
                      ((), ()), ([], []), ("", ""), ("ab", "cd"), (N, N), (0, 0), (True, False), (1, (N,)),
                      ((0,), N), ((0,), 0), ((0,), ""), ("0", (N,)), (N, (N,)), [0, [N]], {}, {0: 1, 1: 0}, b"ab"):
            self.assert_no_skin(thing)

    def test_small_things_just_as_the_words_say(self):
        for many in (1, 2):
            things = (N, True, False) + tuple(range(-2, many + 2))
            for row in product(things, repeat=2 * many):
                onward, mates = row[:many], row[many:]
                fit = (all(type(thing) is int for thing in onward)
                       and all(thing is None or type(thing) is int for thing in mates)
                       and broken_by_the_words(onward, mates) is None)
                self.assertIs(is_skin((onward, mates)), fit, (onward, mates))

    def test_what_is_handed_in_stays_and_the_answer_too(self):
        things = [[0], [N]]
        self.assertIs(is_skin(things), False)
        self.assertEqual(things, [[0], [N]])
        skin = grid(10, 10, False)
        self.assertIs(is_skin(skin), True)
        self.assertIs(is_skin(skin), True)
        self.assertEqual(skin, grid(10, 10, False))


class TestBroken(unittest.TestCase):
    def assert_broken(self, onward, mates, half):
        told = broken(onward, mates)
        self.assertEqual(told, half, (onward, mates))
        self.assertIs(type(told), int)
        self.assertEqual(broken(onward, mates), half)
        self.assertIs(is_skin((onward, mates)), False)

    def test_none_where_they_make_a_skin(self):
        for told in BY_HAND:
            with self.subTest(told.name):
                self.assertIsNone(broken(*told.skin))
        for skin in small_skins(4):
            self.assertIsNone(broken(*skin))
        for skin in middle_skins() + large_skins():
            self.assertIsNone(broken(*skin))

    def test_onward_is_no_half_seam(self):
        self.assert_broken((-1,), (N,), 0)
        self.assert_broken((1,), (N,), 0)
        self.assert_broken((3, 2, 0), (N, N, N), 0)
        self.assert_broken((1, 3, 0), (N, N, N), 1)
        self.assert_broken((1, 2, 3), (N, N, N), 2)
        self.assert_broken((-1, 2, 0), (N, N, N), 0)
        self.assert_broken((1, -1, 0), (N, N, N), 1)
        self.assert_broken((1, 2, -3), (N, N, N), 2)
        self.assert_broken((1, 2, 999999999), (N, N, N), 2)
        self.assert_broken((1, 2, -999999999), (N, N, N), 2)

    def test_onward_is_that_of_a_lesser_one(self):
        self.assert_broken((0, 0), (N, N), 1)
        self.assert_broken((1, 1, 0), (N, N, N), 1)
        self.assert_broken((1, 0, 1), (N, N, N), 2)
        self.assert_broken((1, 2, 2), (N, N, N), 2)
        self.assert_broken((2, 2, 2), (N, N, N), 1)

    def test_mate_is_itself(self):
        self.assert_broken((0,), (0,), 0)
        self.assert_broken((1, 2, 0), (0, N, N), 0)
        self.assert_broken((1, 2, 0), (N, 1, N), 1)
        self.assert_broken((1, 2, 0), (1, 0, 2), 2)

    def test_mate_is_beyond_or_below(self):
        self.assert_broken((0,), (1,), 0)
        self.assert_broken((0,), (-1,), 0)
        self.assert_broken((1, 2, 0), (3, N, N), 0)
        self.assert_broken((1, 2, 0), (1, 0, 3), 2)
        self.assert_broken((1, 2, 0), (N, 999999999, N), 1)
        # Counted from the end these would be mates.
        self.assert_broken((1, 0), (-1, 0), 0)
        self.assert_broken((1, 2, 0), (N, -1, 1), 1)
        self.assert_broken((1, 2, 0), (N, 2, -2), 1)

    def test_mate_whose_mate_is_another_one(self):
        self.assert_broken((1, 2, 0), (1, 0, 0), 2)
        self.assert_broken((1, 2, 0), (1, 2, 1), 0)
        self.assert_broken((1, 2, 0), (1, 2, 0), 0)
        self.assert_broken((1, 2, 3, 0), (1, 0, 3, 0), 2)

    def test_mate_on_one_side_only(self):
        self.assert_broken((1, 0), (1, N), 0)
        self.assert_broken((1, 0), (N, 0), 1)
        self.assert_broken((1, 2, 0), (N, N, 0), 2)

    def test_of_two_broken_ones_the_least_is_told(self):
        self.assert_broken((5, 1, 2), (N, N, 2), 0)
        self.assert_broken((0, 1, 5), (0, N, N), 0)
        self.assert_broken((1, 1, 2), (N, N, 0), 1)
        self.assert_broken((0, 1, 1), (N, 1, N), 1)
        self.assert_broken((0, 1, 1), (N, N, 2), 2)
        self.assert_broken((-1, 3, 0), (N, N, N), 0)
        self.assert_broken((0, 1, 2, 3), (N, 3, 2, N), 1)
        self.assert_broken((0, 1, 2, 2), (3, N, N, N), 0)

    def test_the_first_and_the_last_of_400(self):
        onward, mates = grid(10, 10, True)
        for at in (0, 399):
            self.assert_broken(with_item(onward, at, -1), mates, at)
            self.assert_broken(with_item(onward, at, 400), mates, at)
        self.assert_broken(with_item(onward, 399, onward[0]), mates, 399)
        onward, mates = ring(400)
        for at in (0, 399):
            for thing in (-1, 400, at, 200):
                self.assert_broken(onward, with_item(mates, at, thing), at)
        self.assert_broken(with_item(onward, 399, -1), with_item(mates, 0, 0), 0)
        self.assert_broken(with_item(onward, 399, -1), with_item(mates, 398, 0), 398)

    def test_all_of_at_most_two_just_as_the_words_say(self):
        for many in (1, 2):
            for row in product(range(-1, many + 1), repeat=many):
                for mates in product((N,) + tuple(range(-2, many + 2)), repeat=many):
                    self.assertEqual(broken(row, mates), broken_by_the_words(row, mates), (row, mates))

    def test_all_of_three_just_as_the_words_say(self):
        for onward in product(range(-1, 4), repeat=3):
            for mates in product((N, -1, 0, 1, 2, 3), repeat=3):
                self.assertEqual(broken(onward, mates), broken_by_the_words(onward, mates), (onward, mates))

    def test_many_with_faults_just_as_the_words_say(self):
        for seed, (onward, mates) in enumerate(middle_skins()):
            many = len(onward)
            one, other = shuffled(range(many), seed)[:2]
            for thing in (-1, many, 0, many - 1):
                for strange in (N, -1, many, 0, other):
                    faulty = (with_item(onward, one, thing), with_item(mates, other, strange))
                    told = broken(*faulty)
                    self.assertEqual(told, broken_by_the_words(*faulty), faulty)
                    self.assertIs(is_skin(faulty), told is None)


if __name__ == "__main__":
    unittest.main()
