"""Points 11 and 12: skins by knots."""

import unittest
from itertools import product

from halfseams.byknots import by_knots, told_by_knots
from halfseams.errors import NoSkin, TooMany
from halfseams.skins import is_skin
from halfseams.walks import knots, patches
from tests.by_words import classes
from tests.checks import made_as_told
from tests.samples import BY_HAND, grid, large_skins, lengths_of, middle_skins, net, ring, small_skins

N = None

# In the order of BY_HAND.
TOLD_BY_HAND = (
    ((0,),),
    ((0, 1, 2),),
    ((0, 2, 1),),
    ((0,), (1,), (2,)),
    ((0,), (0,)),
    ((0, 1),),
    ((0, 1, 0),),
    ((0, 1, 2), (1, 0, 3)),
    ((0, 1, 2), (1, 0, 2)),
    ((0, 0, 0, 0),),
    ((0, 0, 1, 1),),
    ((0, 1, 2, 3), (1, 0, 3, 2)),
    ((0, 1, 2), (0, 3, 1), (0, 4, 3)),
    ((0, 1, 2), (0, 2, 3), (0, 3, 1), (1, 3, 2)),
    ((0, 2, 4), (1,), (3, 5)),
)


def ways(rows):
    return [(row[at], row[(at + 1) % len(row)]) for row in rows for at in range(len(row))]


def skin_by_the_words(rows):
    """The half seam of which rows are refused, or the skin that they make, straight from point 11."""
    all_ways = ways(rows)
    for half, (start, end) in enumerate(all_ways):
        if start == end or all_ways[half] in all_ways[:half]:
            return half
    onward, first = [], 0
    for row in rows:
        onward += [first + (at + 1) % len(row) for at in range(len(row))]
        first += len(row)
    mates = [all_ways.index((end, start)) if (end, start) in all_ways else None for start, end in all_ways]
    left = [(half, mates[onward.index(half)]) for half in range(first)]
    found = classes(first, [(half, other) for half, other in left if other is not None])
    for half, (start, end) in enumerate(all_ways):
        here = {knot for knot in found for one in knot if all_ways[one][0] == start}
        if len(here) > 1:
            return half
    return tuple(onward), tuple(mates)


def renamed(rows):
    """The rows with their numbers told by the order in which they first come."""
    place = {}
    return tuple(tuple(place.setdefault(number, len(place)) for number in row) for row in rows)


class TestByKnots(unittest.TestCase):
    def assert_refused(self, rows, half):
        with self.assertRaises(NoSkin) as caught:
            by_knots(rows)
        self.assertEqual(caught.exception.half, half, rows)
        self.assertIs(type(caught.exception.half), int)

    def test_by_hand(self):
        self.assertEqual(by_knots(((0, 1, 2),)), ring(3))
        self.assertEqual(by_knots(((5, 9),)), ((1, 0), (1, 0)))
        self.assertEqual(by_knots(((0, 1, 2), (1, 0, 3))), BY_HAND[7].skin)
        self.assertEqual(by_knots(((0, 1, 2), (1, 0, 2))), BY_HAND[8].skin)
        self.assertEqual(by_knots(((0, 1, 2), (0, 2, 3), (0, 3, 1), (1, 3, 2))), BY_HAND[13].skin)
        self.assertEqual(by_knots(((0, 1, 2), (7, 8, 9))), ((1, 2, 0, 4, 5, 3), (N,) * 6))

    def test_any_numbers(self):
        self.assertEqual(by_knots(((-5, 7, 999999999), (7, -5, -999999999))), BY_HAND[7].skin)
        self.assertEqual(by_knots(((2, 1, 0), (1, 2, -1))), BY_HAND[7].skin)

    def test_mates_in_one_patch(self):
        self.assertEqual(by_knots(((0, 1, 0, 2),)), ((1, 2, 3, 0), (1, 0, 3, 2)))
        self.assertEqual(by_knots(((0, 1, 2, 1),)), ((1, 2, 3, 0), (3, 2, 1, 0)))
        # 3 is a knot within the patch, to which a seam leads from 0 and back.
        self.assertEqual(by_knots(((0, 3, 0, 1, 2),)), ((1, 2, 3, 4, 0), (1, 0, N, N, N)))

    def test_a_net_closed_both_ways(self):
        rows = tuple((3 * r + c, 3 * r + (c + 1) % 3, 3 * ((r + 1) % 3) + (c + 1) % 3, 3 * ((r + 1) % 3) + c)
                     for r in range(3) for c in range(3))
        self.assertEqual(by_knots(rows), grid(3, 3, True))

    def test_too_many(self):
        for rows in ((), ((),), ((), ()), ((0, 1, 2), ()), ((), (0, 1, 2)), ((0, 1, 2), (), (1, 0, 3))):
            self.assertRaises(TooMany, by_knots, rows)

    def test_400_numbers_and_401(self):
        self.assertEqual(by_knots((tuple(range(400)),)), ring(400))
        self.assertRaises(TooMany, by_knots, (tuple(range(401)),))
        triangles = tuple((3 * at, 3 * at + 1, 3 * at + 2) for at in range(133))
        self.assertEqual(len(by_knots(triangles)[0]), 399)
        pairs = tuple((2 * at, 2 * at + 1) for at in range(200))
        self.assertEqual(by_knots(pairs)[1], tuple(half ^ 1 for half in range(400)))
        self.assertRaises(TooMany, by_knots, pairs[:-1] + ((7000, 8000, 9000),))
        self.assertRaises(TooMany, by_knots, pairs + ((8000,),))

    def test_400_and_401_one_by_one(self):
        self.assert_refused(tuple((number,) for number in range(400)), 0)
        self.assertRaises(TooMany, by_knots, tuple((number,) for number in range(401)))

    def test_too_many_goes_ahead_of_no_skin(self):
        self.assertRaises(TooMany, by_knots, ((0, 0), ()))
        self.assertRaises(TooMany, by_knots, ((0,) * 401,))
        self.assert_refused(((0,) * 400,), 0)

    def test_from_a_number_to_the_same(self):
        self.assert_refused(((4,),), 0)
        self.assert_refused(((0, 1, 1),), 1)
        self.assert_refused(((0, 1, 0),), 2)
        self.assert_refused(((0, 1, 2), (3,)), 3)
        self.assert_refused(((0, 1, 2), (1, 0, 3, 3)), 5)

    def test_as_a_lesser_one_leads(self):
        self.assert_refused(((0, 1, 2), (0, 1, 3)), 3)
        self.assert_refused(((0, 1, 2), (3, 0, 1)), 4)
        self.assert_refused(((0, 1, 0, 1),), 2)
        self.assert_refused(((0, 1, 2), (0, 1, 2)), 3)
        self.assert_refused(((0, 1), (1, 0)), 2)
        # 1 leads to 2 in all three, 2 to 1 in one.
        self.assert_refused(((1, 2, 3), (2, 1, 4), (1, 2, 5)), 6)

    def test_of_both_the_least(self):
        self.assert_refused(((0, 1, 2), (0, 1, 1)), 3)
        self.assert_refused(((0, 0, 1), (0, 0, 2)), 0)
        self.assert_refused(((0, 1, 2), (5, 5), (0, 1, 3)), 3)
        self.assert_refused(((0, 1, 2), (0, 1, 3), (5, 5)), 3)

    def test_a_number_with_several_knots(self):
        self.assert_refused(((0, 1, 2), (0, 3, 4)), 0)
        self.assert_refused(((1, 2, 0), (3, 0, 4)), 2)
        self.assert_refused(((1, 0, 2), (3, 4, 0)), 1)
        self.assert_refused(((0, 1, 2, 0, 3, 4),), 0)
        self.assert_refused(((1, 0, 2, 3, 0, 4),), 1)
        # Two balls that have the number 3 both.
        ball = ((0, 1, 2), (0, 2, 3), (0, 3, 1), (1, 3, 2))
        other = tuple(tuple(number if number == 3 else number + 10 for number in row) for row in ball)
        self.assert_refused(ball + other, 5)

    def test_of_several_such_numbers_the_least_half_seam(self):
        self.assert_refused(((8, 1, 2), (8, 5, 2, 7)), 0)
        self.assert_refused(((8, 1, 2), (5, 2, 7, 1)), 1)
        self.assert_refused(((8, 1, 2), (1, 9, 2, 7)), 1)

    def test_several_knots_are_told_behind_the_other_faults(self):
        self.assert_refused(((0, 1, 2), (0, 3, 4), (5, 5)), 6)
        self.assert_refused(((0, 1, 2), (0, 3, 4), (6, 3, 4)), 7)

    def test_all_small_ones_as_the_words_say(self):
        for many in range(1, 6):
            for lengths in lengths_of(many, many):
                for numbers in product(range(min(many, 4)), repeat=many):
                    left = list(numbers)
                    rows = tuple(tuple(left.pop(0) for place in range(length)) for length in lengths[::-1])
                    wanted = skin_by_the_words(rows)
                    if isinstance(wanted, int):
                        self.assert_refused(rows, wanted)
                    else:
                        self.assertEqual(by_knots(rows), wanted, rows)

    def test_what_is_told_is_a_skin_and_what_is_handed_in_stays(self):
        rows = ((0, 1, 2), (1, 0, 3))
        told = by_knots(rows)
        self.assertTrue(is_skin(told))
        self.assertTrue(made_as_told(told))
        self.assertEqual(by_knots(rows), told)
        self.assertEqual(rows, ((0, 1, 2), (1, 0, 3)))


class TestToldByKnots(unittest.TestCase):
    def test_by_hand(self):
        self.assertEqual(len(TOLD_BY_HAND), len(BY_HAND))
        for told, rows in zip(BY_HAND, TOLD_BY_HAND):
            self.assertEqual(told_by_knots(told.skin), rows, told.name)

    def test_of_what_by_knots_told(self):
        for rows in (((5, 9),), ((-5, 7, 999999999), (7, -5, -999999999)), ((8, 1, 4), (1, 8, 0)),
                     ((3, 1, 3, 2),), ((0, 1, 2), (9, 8, 7), (0, 2, 5)), (tuple(range(400, 0, -1)),)):
            self.assertEqual(told_by_knots(by_knots(rows)), renamed(rows))

    def test_back_by_knots(self):
        for skin in (BY_HAND[1].skin, BY_HAND[7].skin, BY_HAND[12].skin, BY_HAND[13].skin, grid(10, 10, True),
                     grid(10, 10, False), net(5, 3, True, False), ring(400)):
            self.assertEqual(by_knots(told_by_knots(skin)), skin)

    def test_many_as_the_words_say(self):
        for skin in list(small_skins(4)) + middle_skins() + large_skins():
            place = {half: at for at, knot in enumerate(knots(skin)) for half in knot}
            told = told_by_knots(skin)
            self.assertEqual(told, tuple(tuple(place[half] for half in patch) for patch in patches(skin)))
            self.assertTrue(made_as_told(told))


if __name__ == "__main__":
    unittest.main()
