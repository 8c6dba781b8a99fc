"""Points 30 and 31, and point 3 as far as it speaks of them: finer skins, and those that are not made."""

import unittest

from halfseams.byknots import by_knots
from halfseams.counts import counts, totals
from halfseams.finer import far_ahead, far_mate, far_onward, far_totals, finer
from halfseams.skins import is_skin
from halfseams.walks import patch_of, patches, round_knot
from tests.checks import Cases, made_as_told, outcome
from tests.rows_of_knots import SEVEN_ROWS
from tests.samples import (
    BALL, BY_HAND, FAN, HANDLE, LONE, PATCH_OF_MATES, PILLOW, PURSE, TUBE, TWO_SINGLES, TWO_TRIANGLES, grid,
    large_skins, middle_skins, mixed_skin, one_of_each, opposite, ring, shuffled, side_by_side, single_patches,
    small_skins)

N = None
FAR = (far_onward, far_ahead, far_mate)


def finer_by_the_words(skin):
    """The finer skin, however large, sentence by sentence."""
    onward, mates = skin
    behind = {}
    mated = {number: None for number in range(4 * len(onward))}
    for h, k in enumerate(onward):
        behind.update({4 * h: 4 * h + 1, 4 * h + 1: 4 * h + 2, 4 * h + 2: 4 * h, 4 * h + 3: 4 * k + 3})
        mated.update({4 * h + 1: 4 * h + 3, 4 * h + 3: 4 * h + 1})
        if mates[h] is not None:
            v = onward[mates[h]]
            mated.update({4 * h: 4 * v + 2, 4 * v + 2: 4 * h})
    numbers = range(4 * len(onward))
    return tuple(behind[number] for number in numbers), tuple(mated[number] for number in numbers)


def many_skins():
    return [told.skin for told in BY_HAND] + list(small_skins(4)) + list(one_of_each(6))[::5] + middle_skins()


def some_numbers(many, seed):
    """The ends of the bounds, and some numbers between them."""
    found = [0, 1, 2, 3, 4, many // 4 - 1, many // 4, many // 2, many - 4, many - 3, many - 2, many - 1]
    state = seed
    for step in range(40):
        state = (state * 6364136223846793005 + 1442695040888963407) % 2 ** 64
        # One sixteenth of all, one half, and so on, so that figures of all heights are met.
        found.append(state ** 7 % many)
    return sorted({number for number in found if 0 <= number < many})


def knot_length(skin, times, number):
    """Of how many half seams the knot of the number is told, by where it came from."""
    place = 0
    while times and place == 0:
        number, place = divmod(number, 4)
        times -= 1
    if place == 0:
        return len(round_knot(skin, number))
    # A knot in the middle of a seam: that of its half seam, or of the one ahead.
    side = number if place == 1 else far_ahead(skin, times, number)
    return 3 if far_mate(skin, times, side) is None else 6


def patch_length(skin, times, number):
    """Of how many half seams the patch of the number is told, by where it came from."""
    while times:
        number, place = divmod(number, 4)
        times -= 1
        if place != 3:
            return 3
    return len(patch_of(skin, number))


def patch_walk(skin, times, number):
    """The walk round the patch of a number, or its first hundreds."""
    walk = [number]
    at = far_onward(skin, times, number)
    while at != number and len(walk) < 500:
        walk.append(at)
        at = far_onward(skin, times, at)
    return walk


def knot_walk(skin, times, number):
    """The walk round the knot of a number, from where one can not go farther to the right."""
    first = number
    for step in range(500):
        mate = far_mate(skin, times, first)
        if mate is None:
            break
        first = far_onward(skin, times, mate)
        if first == number:
            break
    walk = [first]
    at = far_mate(skin, times, far_ahead(skin, times, first))
    while at is not None and at != first and len(walk) < 500:
        walk.append(at)
        at = far_mate(skin, times, far_ahead(skin, times, at))
    return walk


class TestFiner(Cases):
    def test_by_hand(self):
        self.assert_told(
            finer,
            (LONE, (), ((1, 2, 0, 3), (N, 3, N, 1))),
            # The mate of 0, 1, comes behind itself: so 0 and 6 are mates, and 4 and 2.
            (TWO_SINGLES, (), ((1, 2, 0, 3, 5, 6, 4, 7), (6, 3, 4, 1, 2, 7, 0, 5))),
            # The mate comes behind: 0 and 2 are mates, and 4 and 6.
            (PATCH_OF_MATES, (), ((1, 2, 0, 7, 5, 6, 4, 3), (2, 3, 0, 1, 6, 7, 4, 5))),
            # 0 and 1 are mates: 0 and 10, 4 and 6; 2 has none: neither 8 nor 2.
            (PURSE, (), ((1, 2, 0, 7, 5, 6, 4, 11, 9, 10, 8, 3), (10, 3, N, 1, 6, 7, 4, 5, N, 11, 0, 9))),
            (ring(2), (), ((1, 2, 0, 7, 5, 6, 4, 3), (N, 3, N, 1, N, 7, N, 5))),
            (ring(3), (), ((1, 2, 0, 7, 5, 6, 4, 11, 9, 10, 8, 3), (N, 3, N, 1, N, 7, N, 5, N, 11, N, 9))),
            # 0 and 3 are mates, 4 behind 3, 1 behind 0: so 0 and 18, 12 and 6.
            (TWO_TRIANGLES, (), (
                (1, 2, 0, 7, 5, 6, 4, 11, 9, 10, 8, 3, 13, 14, 12, 19, 17, 18, 16, 23, 21, 22, 20, 15),
                (18, 3, N, 1, N, 7, 12, 5, N, 11, N, 9, 6, 15, N, 13, N, 19, 0, 17, N, 23, N, 21))))

    def test_the_bound(self):
        for skin in (ring(100), single_patches(100), grid(5, 5, True), grid(5, 5, False), mixed_skin(100, 40, 3)):
            told = finer(skin)
            self.assertEqual(told, finer_by_the_words(skin))
            self.assertTrue(is_skin(told))
        for skin in (ring(101), single_patches(101), mixed_skin(101, 50, 3), opposite(102), grid(10, 10, True)):
            self.assertEqual(outcome(finer, skin), "TooMany")
        for skin in large_skins():
            self.assertEqual(outcome(finer, skin), "TooMany")

    def test_many_as_the_words_say(self):
        for skin in many_skins():
            told = finer(skin)
            self.assertEqual(told, finer_by_the_words(skin), skin)
            self.assertTrue(is_skin(told) and made_as_told(told))

    def test_seams_are_halved_and_patches_cut(self):
        for skin in many_skins():
            told = finer(skin)
            for (k, s, p, r, handles), then in zip(counts(skin), counts(told), strict=True):
                self.assertEqual((then[0], then[3], then[4]), (k + s, r, handles))
            pieces = sum(len(patch) + 1 for patch in patches(skin))
            halves = len(skin[0])
            self.assertEqual(totals(told)[1:3], (2 * totals(skin)[1] + halves, pieces))
            # Each patch of s leaves one of s, and s of three.
            lengths = [len(patch) for patch in patches(skin)] + [3] * halves
            self.assertEqual(sorted(len(patch) for patch in patches(told)), sorted(lengths))


class TestFar(unittest.TestCase):
    def test_no_times_at_all(self):
        for skin in many_skins() + large_skins()[:3]:
            for half in range(0, len(skin[0]), 1 + len(skin[0]) // 20):
                self.assertEqual(far_onward(skin, 0, half), skin[0][half])
                self.assertEqual(far_ahead(skin, 0, half), skin[0].index(half))
                self.assertEqual(far_mate(skin, 0, half), skin[1][half])

    def test_by_hand(self):
        for times, number, wanted in (
                (1, 0, (1, 2, N)), (1, 1, (2, 0, 3)), (1, 2, (0, 1, N)), (1, 3, (3, 3, 1)),
                # Twice: 1 and 3 of once are mates; behind 3 comes 3, behind 1 comes 2.
                (2, 4, (5, 6, 4 * 3 + 2)), (2, 12, (13, 14, 4 * 2 + 2)), (2, 6, (4, 5, N)), (2, 10, (8, 9, 12)),
                (2, 15, (15, 15, 13)), (2, 7, (11, 3, 5)), (2, 0, (1, 2, N)),
                # Behind 0, 1, 2 of once come 1, 2, 0.
                (2, 3, (7, 11, 1)), (2, 11, (3, 7, 9))):
            told = tuple(function(LONE, times, number) for function in FAR)
            self.assertEqual(told, wanted, (times, number))

    def test_against_skins_made_step_by_step(self):
        for skin in many_skins():
            made = skin
            times = 0
            while len(made[0]) <= 400:
                self.assert_same(skin, times, made)
                if 4 * len(made[0]) > 400:
                    break
                made = finer(made)
                times += 1

    def assert_same(self, skin, times, made):
        for number in range(len(made[0])):
            self.assertEqual(far_onward(skin, times, number), made[0][number])
            self.assertEqual(far_ahead(skin, times, made[0][number]), number)
            self.assertEqual(far_mate(skin, times, number), made[1][number])
        self.assertEqual(far_totals(skin, times), totals(made))

    def test_beyond_those_that_can_be_made(self):
        for skin in (LONE, PURSE, TWO_SINGLES, HANDLE, BALL, side_by_side(PATCH_OF_MATES, TUBE)):
            made = skin
            for times in range(1, 7 if len(skin[0]) < 3 else 5):
                made = finer_by_the_words(made)
                for number in range(0, len(made[0]), 1 + len(made[0]) // 700):
                    self.assertEqual(far_onward(skin, times, number), made[0][number])
                    self.assertEqual(far_ahead(skin, times, number), made[0].index(number))
                    self.assertEqual(far_mate(skin, times, number), made[1][number])

    def test_sixty_times_at_both_ends(self):
        many = 4 ** 60
        self.assertEqual([function(LONE, 60, 0) for function in FAR], [1, 2, N])
        self.assertEqual([function(LONE, 60, 1) for function in FAR], [2, 0, 3])
        self.assertEqual([function(LONE, 60, 2) for function in FAR], [0, 1, N])
        # The last one, many - 1, makes the patch of one in the middle, as once finer 3 does.
        self.assertEqual([function(LONE, 60, many - 1) for function in FAR], [many - 1, many - 1, many - 3])
        # With h of 59 times being the last one there, its mate is h - 2, and behind that comes h - 1.
        self.assertEqual([function(LONE, 60, many - 2) for function in FAR], [many - 4, many - 3, many - 12])
        self.assertEqual([function(LONE, 60, many - 4) for function in FAR], [many - 3, many - 2, many - 6])
        self.assertEqual([far_mate(LONE, 60, number) for number in (many - 12, many - 6)], [many - 2, many - 4])
        # Of 4 v + 2, the mate of 0 each time, 4 v is behind: so v is four times the last one.
        self.assertEqual([far_mate(TWO_SINGLES, 60, number) for number in (0, many, many + 2)], [many + 2, 2, 0])

    def test_large_skins_sixty_times(self):
        for seed, skin in enumerate(large_skins()):
            many = len(skin[0]) * 4 ** 60
            for number in some_numbers(many, seed)[::6] + [0, many - 1]:
                for function in FAR:
                    told = function(skin, 60, number)
                    self.assertTrue(told is None or type(told) is int and 0 <= told < many)
                self.assertEqual(far_ahead(skin, 60, far_onward(skin, 60, number)), number)

    def test_no_half(self):
        for skin in (LONE, PURSE, BALL, ring(400)):
            for times in (0, 1, 2, 17, 59, 60):
                many = len(skin[0]) * 4 ** times
                for function in FAR:
                    for number in (-1, -many, many, many + 1, 10 ** 59, 10 ** 60 - 1, 10 ** 60, 1 - 10 ** 60,
                                   -10 ** 60, 10 ** 61, 10 ** 400, -10 ** 400, 10 ** 5000, -10 ** 5000):
                        self.assertEqual(outcome(function, skin, times, number), "NoHalf", (times, number))
                    for number in (0, many - 1):
                        self.assertNotEqual(outcome(function, skin, times, number), "NoHalf", (times, number))

    def test_too_many_goes_ahead(self):
        for skin in (LONE, BALL, ring(400)):
            for times in (-1, 61, -60, 62, 100, 999999999, -999999999):
                for function in FAR:
                    for number in (0, 1, -1, 10 ** 59, 10 ** 61):
                        self.assertEqual(outcome(function, skin, times, number), "TooMany", (times, number))
                self.assertEqual(outcome(far_totals, skin, times), "TooMany", times)


class TestHoweverFine(unittest.TestCase):
    SKINS = (LONE, PURSE, TWO_SINGLES, PATCH_OF_MATES, HANDLE, TUBE, FAN, BALL, PILLOW, by_knots(SEVEN_ROWS),
             grid(3, 3, False), mixed_skin(37, 14, 5), side_by_side(opposite(14), ring(5), LONE))

    def each_number(self):
        for seed, skin in enumerate(self.SKINS):
            for times in (3, 7, 30, 60):
                for number in some_numbers(len(skin[0]) * 4 ** times, seed)[::2]:
                    yield skin, times, number

    def test_ahead_and_behind_lead_back(self):
        for skin, times, number in self.each_number():
            self.assertEqual(far_ahead(skin, times, far_onward(skin, times, number)), number)
            self.assertEqual(far_onward(skin, times, far_ahead(skin, times, number)), number)

    def test_mates_lead_back(self):
        for skin, times, number in self.each_number():
            mate = far_mate(skin, times, number)
            if mate is not None:
                self.assertNotEqual(mate, number)
                self.assertEqual(far_mate(skin, times, mate), number)

    def test_without_rims_all_have_mates(self):
        for skin, times, number in self.each_number():
            if N not in skin[1]:
                self.assertIsNotNone(far_mate(skin, times, number))

    def test_walks_come_round(self):
        for skin, times, number in self.each_number():
            walk = patch_walk(skin, times, number)
            self.assertEqual(len(walk), patch_length(skin, times, number), (skin, times, number))
            self.assertEqual(len(set(walk)), len(walk))
            walk = knot_walk(skin, times, number)
            self.assertIn(number, walk)
            self.assertEqual(len(walk), knot_length(skin, times, number), (skin, times, number))
            self.assertEqual(len(set(walk)), len(walk))

    def test_the_knots_and_patches_of_the_first_skin_stay_as_long(self):
        for skin in self.SKINS:
            for half in shuffled(range(len(skin[0])), 3)[:8]:
                # The first of four, again and again, has the same knot; the last one the patch in the middle.
                self.assertEqual(len(knot_walk(skin, 60, half * 4 ** 60)), len(round_knot(skin, half)))
                middle = half * 4 ** 60 + 4 ** 60 - 1
                self.assertEqual(len(patch_walk(skin, 60, middle)), len(patch_of(skin, half)))


class TestFarTotals(unittest.TestCase):
    def test_by_hand(self):
        self.assertEqual(far_totals(LONE, 0), (1, 1, 1, 1, 0, 1))
        self.assertEqual(far_totals(LONE, 1), (2, 3, 2, 1, 0, 1))
        self.assertEqual(far_totals(LONE, 2), (5, 10, 6, 1, 0, 1))
        self.assertEqual(far_totals(BALL, 1), (10, 24, 16, 0, 0, 1))
        self.assertEqual(far_totals(BALL, 60), (2 * 4 ** 60 + 2, 6 * 4 ** 60, 4 * 4 ** 60, 0, 0, 1))
        self.assertEqual(far_totals(HANDLE, 1), (3, 8, 5, 0, 1, 1))

    def test_going_on_time_by_time(self):
        for skin in many_skins() + large_skins():
            many = len(skin[0])
            mateless = skin[1].count(None)
            told = far_totals(skin, 0)
            self.assertEqual(told, totals(skin))
            for times in range(1, 61):
                then = far_totals(skin, times)
                k, s, p, *rest = told
                self.assertEqual(then, (k + s, 4 * s - mateless, p + many, *rest))
                many *= 4
                mateless *= 2
                told = then
            self.assertTrue(made_as_told(told))

    def test_handles_stay_of_what_the_counts_are(self):
        for skin in many_skins():
            k, s, p, r, handles, many_parts = far_totals(skin, 60)
            self.assertEqual(2 * many_parts - k + s - p - r, 2 * handles)


if __name__ == "__main__":
    unittest.main()
