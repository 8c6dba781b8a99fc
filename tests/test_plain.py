"""Points 24 and 25: plain skins, and how they are shrunk."""

import unittest
from itertools import product

from halfseams.byknots import by_knots
from halfseams.counts import totals
from halfseams.cuts import cut, split
from halfseams.errors import NoSkin
from halfseams.plain import harmless, is_plain, shrunk
from halfseams.skins import is_skin
from halfseams.walks import patch_of
from tests.by_words import Cloth
from tests.checks import made_as_told, outcome
from tests.rows_of_knots import BALL_ROWS, CUBE_ROWS, SEVEN_ROWS, double_tent, halved_net, some_rows, twenty_rows
from tests.samples import (
    BALL, BY_HAND, FAN, HANDLE, LONE, PATCH_OF_MATES, PILLOW, PURSE, TUBE, TWO_SINGLES, TWO_SQUARES, TWO_TRIANGLES,
    grid, middle_skins, one_of_each, renumbered, ring, side_by_side, single_patches, triangles)

PLAIN_ROWS = (
    ((0, 1, 2),), ((0, 1, 2), (1, 0, 3)), ((0, 1, 2), (0, 3, 1), (0, 4, 3)), BALL_ROWS, BALL_ROWS[:3], BALL_ROWS[:2],
    double_tent(3), double_tent(4), double_tent(5), double_tent(9), twenty_rows(), twenty_rows()[1:], SEVEN_ROWS,
    SEVEN_ROWS[1:], halved_net(2, 2, False, False), halved_net(1, 5, False, False), halved_net(1, 3, False, True),
    halved_net(2, 4, False, True), halved_net(3, 3, True, True), halved_net(4, 3, True, True),
    halved_net(3, 3, True, True)[4:], double_tent(3) + ((10, 11, 12), (12, 11, 13)))


def skin_or_none(rows):
    """The skin of the rows, or None where they make none."""
    try:
        return by_knots(rows)
    except NoSkin:
        return None


def plain_by_the_words(cloth):
    """The three conditions of point 24, one by one."""
    knots = cloth.knots()
    place = {half: at for at, knot in enumerate(knots) for half in knot}
    threes = [frozenset(place[half] for half in patch) for patch in cloth.patches]
    if any(len(patch) != 3 for patch in cloth.patches) or any(len(three) != 3 for three in threes):
        return False
    seams = [frozenset((place[half], place[cloth.behind(half)])) for half, mate in cloth.mates.items()
             if mate is None or half < mate]
    return len(set(seams)) == len(seams) and len(set(threes)) == len(threes)


def harmless_by_doing(skin, half):
    """The first sentence of point 25: draw, fold what is two-sided then, and look."""
    mate = skin[1][half]
    cloth = Cloth(skin)
    if cloth.refused("draw", half):
        return False
    sides = [cloth.behind(one) for one in (half, mate) if one is not None]
    cloth.draw(half)
    for side in sides:
        if len(cloth.patch(side)) == 2:
            if cloth.refused_fold(side):
                return False
            cloth.fold(side)
    left = Cloth(cloth.skin())
    return plain_by_the_words(left) and left.totals()[3:] == totals(skin)[3:]


def harmless_by_knots(rows, half):
    """The second sentence of point 25, by the knots of the rows alone."""
    ways = [(row[at], row[(at + 1) % 3]) for row in rows for at in range(3)]
    one, other = ways[half]
    mine = [row for row in rows if one in row and other in row]
    thirds = {knot for row in mine for knot in row} - {one, other}
    beside = [{b for a, b in ways if a == knot} | {a for a, b in ways if b == knot} for knot in (one, other)]
    if beside[0] & beside[1] != thirds or len(thirds) != len(mine):
        return False
    at_rim = {knot for way in ways if way[::-1] not in ways for knot in way}
    if (other, one) not in ways:
        return any((b, a) in ways for a, b in zip(mine[0], mine[0][1:] + mine[0][:1]))
    threes = [set(row) for row in rows]
    return not {one, other} <= at_rim and not (thirds | {one} in threes and thirds | {other} in threes)


def shrunk_rows(rows, half):
    """The rows without those round the seam of half, its end renamed as its beginning."""
    ways = [(row[at], row[(at + 1) % 3]) for row in rows for at in range(3)]
    one, other = ways[half]
    return tuple(tuple(one if knot == other else knot for knot in row) for row in rows
                 if not {one, other} <= set(row))


def many_plain_rows():
    """Rows that make plain skins."""
    found = list(PLAIN_ROWS)
    triples = ((0, 1, 2), (0, 1, 3), (0, 2, 3), (1, 2, 3), (0, 1, 4), (1, 2, 4))
    for choice in product((0, 1, -1), repeat=len(triples)):
        rows = tuple(row if sign > 0 else row[::-1] for row, sign in zip(triples, choice) if sign)
        if rows and skin_or_none(rows):
            found.append(rows)
    for many, seeds in ((5, 150), (6, 250), (7, 150), (8, 60)):
        for seed in range(seeds):
            rows = some_rows(many, seed)
            if skin_or_none(rows):
                found.append(rows)
    return found


class TestIsPlain(unittest.TestCase):
    def test_plain_ones(self):
        for rows in PLAIN_ROWS:
            self.assertIs(is_plain(by_knots(rows)), True, rows)
        for skin in (BALL, TWO_TRIANGLES, FAN, ring(3)):
            self.assertIs(is_plain(skin), True, skin)

    def test_patches_that_have_not_three_half_seams(self):
        for skin in (LONE, ring(2), ring(4), TWO_SINGLES, PATCH_OF_MATES, TUBE, HANDLE, grid(3, 3, False),
                     by_knots(CUBE_ROWS), split(BALL, 0), split(TWO_TRIANGLES, 5), ring(400), single_patches(400),
                     side_by_side(BALL, ring(4)), side_by_side(ring(2), BALL)):
            self.assertIs(is_plain(skin), False, skin)

    def test_patches_of_three_that_have_not_three_knots(self):
        self.assertIs(is_plain(PURSE), False)
        self.assertIs(is_plain(side_by_side(BALL, PURSE)), False)
        self.assertIs(is_plain(cut(HANDLE, 0, 2)), False)

    def test_two_seams_between_the_same_two_knots(self):
        # A tube of four triangles: each has other three knots, but the two seams of each rim have the same two.
        skin = cut(cut(TWO_SQUARES, 0, 2), 4, 6)
        self.assertEqual([len(patch_of(skin, half)) for half in range(12)], [3] * 12)
        self.assertIs(is_plain(skin), False)

    def test_two_patches_with_the_same_three_knots(self):
        self.assertIs(is_plain(PILLOW), False)
        self.assertIs(is_plain(side_by_side(PILLOW, BALL)), False)

    def test_many_as_the_words_say(self):
        skins = [told.skin for told in BY_HAND] + middle_skins() + list(one_of_each(6))
        skins += [triangles(1 + seed % 5, min(seed % 7, 3 * (1 + seed % 5) // 2), seed) for seed in range(200)]
        for skin in skins:
            self.assertIs(is_plain(skin), plain_by_the_words(Cloth(skin)), skin)

    def test_other_numbers_change_nothing(self):
        for seed, rows in enumerate(PLAIN_ROWS):
            self.assertIs(is_plain(renumbered(by_knots(rows), seed)[0]), True)


class TestHarmless(unittest.TestCase):
    def test_by_hand(self):
        # Two triangles: 0 and 3 have both knots at the rim, all others can be shrunk.
        self.assertEqual([harmless(TWO_TRIANGLES, half) for half in range(6)], [False, True, True, False, True, True])
        # A triangle alone has no other half seam with a mate.
        self.assertEqual([harmless(ring(3), half) for half in range(3)], [False] * 3)
        # Round the ball of four both third knots lie in one patch with each knot.
        self.assertEqual([harmless(BALL, half) for half in range(12)], [False] * 12)
        # In the fan 0 and 5, 3 and 8 are mates; 1, 2, 4, 6, 7 lie at the rim.
        self.assertEqual([half for half in range(9) if harmless(FAN, half)], [1, 2, 4, 6, 7])
        # Of the ball without one patch those from the inner knot 0, but none at the rim, whose knots share two others.
        self.assertEqual([half for half in range(9) if harmless(by_knots(BALL_ROWS[:3]), half)], [0, 2, 3, 5, 6, 8])

    def test_eight_twenty_and_seven(self):
        for rows, wanted in ((double_tent(4), True), (twenty_rows(), True), (SEVEN_ROWS, False)):
            skin = by_knots(rows)
            self.assertEqual({harmless(skin, half) for half in range(len(skin[0]))}, {wanted})

    def test_rims_of_three(self):
        # The knots of each seam at a rim share the third knot of the rim and that of their patch.
        skin = by_knots(halved_net(1, 3, False, True))
        at_rim = [half for half, mate in enumerate(skin[1]) if mate is None]
        self.assertEqual(len(at_rim), 6)
        self.assertEqual([harmless(skin, half) for half in at_rim], [False] * 6)

    def test_both_ways_in_which_it_is_told(self):
        yes = no = 0
        for rows in many_plain_rows():
            skin = by_knots(rows)
            if not is_plain(skin):
                continue
            for half in range(len(skin[0])):
                told = harmless(skin, half)
                self.assertIs(told, harmless_by_doing(skin, half), (rows, half))
                self.assertIs(told, harmless_by_knots(rows, half), (rows, half))
                yes, no = yes + told, no + (not told)
        self.assertGreater(min(yes, no), 500)

    def test_in_other_numbers(self):
        for seed, rows in enumerate(PLAIN_ROWS):
            skin = by_knots(rows)
            other, new = renumbered(skin, seed)
            for half in range(len(new)):
                self.assertIs(harmless(other, new[half]), harmless(skin, half))


class TestShrunk(unittest.TestCase):
    def test_by_hand(self):
        for half in (1, 2, 4, 5):
            self.assertEqual(shrunk(TWO_TRIANGLES, half), ring(3))
        # In the fan 1 goes from knot 1 to knot 2; 3 to 8 are left, 3 and 8 still mates.
        self.assertEqual(shrunk(FAN, 1), ((1, 2, 0, 4, 5, 3), (5, None, None, None, None, 0)))
        # 4 goes from knot 3 to knot 1: 0 to 2 and 6 to 8 are left, and 0 and 8 become mates.
        self.assertEqual(shrunk(FAN, 4), ((1, 2, 0, 4, 5, 3), (5, None, None, None, None, 0)))
        # Of eight triangles six are left.
        eight = by_knots(double_tent(4))
        self.assertEqual(totals(eight), (6, 12, 8, 0, 0, 1))
        self.assertEqual(totals(shrunk(eight, 0)), (5, 9, 6, 0, 0, 1))

    def test_as_the_rows_say(self):
        for rows in many_plain_rows():
            skin = by_knots(rows)
            if not is_plain(skin):
                continue
            for half in range(len(skin[0])):
                if harmless(skin, half):
                    told = shrunk(skin, half)
                    self.assertEqual(told, by_knots(shrunk_rows(rows, half)), (rows, half))
                    self.assertTrue(is_skin(told) and made_as_told(told) and is_plain(told))
                    self.assertEqual(totals(told)[3:], totals(skin)[3:])
                else:
                    self.assertEqual(outcome(shrunk, skin, half), "plain", (rows, half))

    def test_in_other_numbers(self):
        for seed, rows in enumerate(PLAIN_ROWS):
            skin, new = renumbered(by_knots(rows), seed)
            before = (tuple(list(skin[0])), tuple(list(skin[1])))
            for half in range(len(new)):
                if harmless(skin, half):
                    mate = skin[1][half]
                    cloth = Cloth(skin)
                    sides = [cloth.behind(one) for one in (half, mate) if one is not None]
                    cloth.draw(half)
                    for side in sides:
                        cloth.fold(side)
                    self.assertEqual(shrunk(skin, half), cloth.skin())
            self.assertEqual(skin, before)

    def test_until_nothing_is_harmless(self):
        for rows, knots_left in ((twenty_rows(), 4), (double_tent(30), 4), (halved_net(4, 4, False, False), 3)):
            skin = by_knots(rows)
            while any(harmless(skin, half) for half in range(len(skin[0]))):
                skin = shrunk(skin, next(half for half in range(len(skin[0])) if harmless(skin, half)))
            self.assertEqual(totals(skin)[0], knots_left)

    def test_of_400(self):
        skin = by_knots(double_tent(66))
        self.assertEqual(len(skin[0]), 396)
        self.assertIs(harmless(skin, 0), True)
        self.assertIs(harmless(skin, 1), True)
        self.assertEqual(len(shrunk(skin, 1)[0]), 390)


class TestRefusals(unittest.TestCase):
    def test_no_half_then_no_plain_then_harm(self):
        for function in (harmless, shrunk):
            for skin in (BALL, PILLOW, LONE, ring(3), ring(400)):
                many = len(skin[0])
                for number in (-1, -many, many, 999999999, -999999999):
                    self.assertEqual(outcome(function, skin, number), "NoHalf")
            for skin in (PILLOW, LONE, ring(4), PURSE, ring(400), side_by_side(BALL, PURSE)):
                self.assertEqual(outcome(function, skin, 0), "NoPlain")
        self.assertEqual(outcome(shrunk, BALL, 0), "plain")
        self.assertEqual(outcome(shrunk, ring(3), 2), "plain")
        self.assertEqual(outcome(shrunk, TWO_TRIANGLES, 3), "plain")


if __name__ == "__main__":
    unittest.main()
