"""Points 21 to 23, by hand: deeds as tuples, back deeds, and what is told ahead."""

import unittest

from halfseams.deeds import back_deed, done, foretold, is_deed
from halfseams.forms import lead
from tests.by_words import WORDS_OF_ONE, WORDS_OF_TWO
from tests.checks import made_as_told, outcome
from tests.samples import (
    BALL, FAN, HANDLE, LONE, PATCH_OF_MATES, PILLOW, PURSE, TUBE, TWO_SINGLES, TWO_SQUARES, TWO_TRIANGLES, grid, ring,
    side_by_side, single_patches)

N = None
NO_NUMBERS = (True, False, N, "0", "", "1", 1.0, (), (0,), [], [0], b"0")
NO_WORDS = (
    "", "Split", "SPLIT", " split", "split ", "splits", "merged", "joined", "turned", "mark", "undo", "skin", "ope",
    "opened", "sewn", "s", "cut part", "split\n")


class TestIsDeed(unittest.TestCase):
    def assert_deed(self, thing):
        self.assertIs(is_deed(thing), True, thing)

    def assert_no_deed(self, thing):
        self.assertIs(is_deed(thing), False, thing)

    def test_the_fifteen_words(self):
        self.assertEqual(len(WORDS_OF_ONE + WORDS_OF_TWO), 15)
        for number in (0, 1, 399, 400, -1, 999999999, -999999999, 10 ** 60):
            for word in WORDS_OF_ONE:
                self.assert_deed((word, number))
            for word in WORDS_OF_TWO:
                self.assert_deed((word, number, 0))
                self.assert_deed((word, 0, number))
                self.assert_deed((word, number, number))

    def test_one_number_more_or_less(self):
        for word in WORDS_OF_ONE:
            self.assert_no_deed((word,))
            self.assert_no_deed((word, 0, 1))
            self.assert_no_deed((word, 0, 1, 2))
        for word in WORDS_OF_TWO:
            self.assert_no_deed((word,))
            self.assert_no_deed((word, 0))
            self.assert_no_deed((word, 0, 1, 2))

    def test_what_is_no_whole_number(self):
        for thing in NO_NUMBERS:
            for word in WORDS_OF_ONE:
                self.assert_no_deed((word, thing))
            for word in WORDS_OF_TWO:
                self.assert_no_deed((word, thing, 0))
                self.assert_no_deed((word, 0, thing))
                self.assert_no_deed((word, thing, thing))

    def test_lists_in_the_place_of_the_tuple(self):
        for word in WORDS_OF_ONE:
            self.assert_no_deed([word, 0])
            self.assert_no_deed((word, (0,)))
            self.assert_no_deed(((word, 0),))
        for word in WORDS_OF_TWO:
            self.assert_no_deed([word, 0, 1])
            self.assert_no_deed((word, (0, 1)))

    def test_other_words(self):
        for word in NO_WORDS + (0, 1, True, N, (), [], ("split",), ["split"], b"split"):
            self.assert_no_deed((word, 0))
            self.assert_no_deed((word, 0, 1))
            self.assert_no_deed((word,))
        for mark in ("a", N):
            self.assert_no_deed(("mark", 0, mark))
        self.assert_no_deed((0, "split"))
        self.assert_no_deed(("split", "merge"))

    def test_single_things_of_each_kind(self):
        for thing in (0, 1, -1, 10 ** 60, 1.5, "", "split", "split 0", True, False, N, (), [], ((),), [[]], ([],), [()],
                      (N,), (0,), (0, 0), ("",), ("", 0), {}, {"split": 0}, b"split"):
            self.assert_no_deed(thing)


class TestDone(unittest.TestCase):
    def assert_done(self, skin, *cases):
        for deed, wanted in cases:
            self.assertEqual(outcome(done, skin, deed), wanted, (skin, deed))

    def test_each_word(self):
        self.assert_done(ring(2), (("split", 0), ((2, 0, 1), (N, N, N))), (("merge", 0), LONE),
                         (("cut", 0, 1), ((2, 3, 0, 1), (N, N, 3, 2))), (("draw", 1), LONE),
                         (("cap", 0), ((1, 0, 3, 2), (2, 3, 0, 1))), (("sew", 1, 0), PATCH_OF_MATES))
        self.assert_done(TWO_TRIANGLES, (("join", 0), ring(4)),
                         (("turn", 0), ((2, 3, 4, 5, 0, 1), TWO_TRIANGLES[1])),
                         (("unturn", 0), ((5, 0, 4, 2, 3, 1), TWO_TRIANGLES[1])),
                         (("rip", 3), side_by_side(ring(3), ring(3))))
        self.assert_done(LONE, (("puff", 0), ((0, 2, 1), (1, 0, N))), (("part", 0, 0), ((1, 2, 0), (N, 2, 1))),
                         (("grow", 0), ring(2)))
        self.assert_done(((0, 2, 1), (1, 0, N)), (("fold", 2), LONE))
        self.assert_done(TWO_SINGLES, (("open", 0), LONE))

    def test_each_order_of_two_numbers(self):
        self.assert_done(ring(2), (("cut", 1, 0), ((3, 2, 1, 0), (N, N, 3, 2))))
        self.assert_done(TWO_SINGLES, (("part", 0, 1), ((2, 3, 0, 1), (1, 0, 3, 2))),
                         (("part", 1, 0), ((3, 2, 1, 0), (1, 0, 3, 2))))

    def test_refusals(self):
        self.assert_done(LONE, (("merge", 0), "knot"), (("join", 0), "rim"), (("turn", 0), "rim"),
                         (("unturn", 0), "rim"), (("fold", 0), "two"), (("draw", 0), "loop"), (("open", 0), "rim"),
                         (("rip", 0), "rim"), (("sew", 0, 0), "Unlike"))
        self.assert_done(TWO_SINGLES, (("join", 0), "last"), (("grow", 0), "inner"), (("cap", 0), "NoRim"),
                         (("sew", 0, 1), "NoRim"), (("cut", 0, 1), "Unlike"), (("turn", 0), "three"))
        self.assert_done(PATCH_OF_MATES, (("join", 0), "one"), (("fold", 0), "last"), (("draw", 0), "last"),
                         (("open", 0), "one"), (("part", 0, 1), "Unlike"))
        self.assert_done(TWO_TRIANGLES, (("draw", 0), "rims"))
        self.assert_done(ring(400), (("split", 0), "TooMany"), (("cut", 0, 0), "TooMany"), (("puff", 0), "TooMany"),
                         (("part", 0, 0), "TooMany"), (("grow", 0), "TooMany"), (("cap", 0), "TooMany"))

    def test_no_half_goes_ahead(self):
        for skin in (LONE, PURSE, BALL, ring(400), single_patches(400), grid(10, 10, True)):
            many = len(skin[0])
            for number in (-1, -many, many, -999999999, 999999999):
                deeds = [(word, number) for word in WORDS_OF_ONE]
                deeds += [(word, number, other) for word in WORDS_OF_TWO for other in (0, many - 1, number)]
                deeds += [(word, other, number) for word in WORDS_OF_TWO for other in (0, many - 1)]
                for deed in deeds:
                    for function in (done, back_deed, foretold):
                        self.assertEqual(outcome(function, skin, deed), "NoHalf", (skin, deed))


class TestBackDeed(unittest.TestCase):
    def assert_back(self, skin, *cases):
        for deed, wanted in cases:
            told = outcome(back_deed, skin, deed)
            self.assertEqual(told, wanted, (skin, deed))
            if isinstance(wanted, tuple):
                self.assertIs(type(told[0]), str)
                self.assertTrue(made_as_told(told[1:]))
                self.assertIsNotNone(lead(done(done(skin, deed), told), skin), (skin, deed))
            self.assertEqual(outcome(back_deed, skin, deed), told)

    def test_split(self):
        self.assert_back(TWO_TRIANGLES, (("split", 0), ("merge", 0)), (("split", 3), ("merge", 3)),
                         (("split", 5), ("merge", 5)))

    def test_merge(self):
        self.assert_back(ring(3), (("merge", 0), ("split", 0)), (("merge", 1), ("split", 1)),
                         # 0, behind 2, is taken away.
                         (("merge", 2), ("split", 1)))
        # 5 and 2 are taken away, then 1 and 3.
        self.assert_back(PILLOW, (("merge", 4), ("split", 3)), (("merge", 0), ("split", 0)),
                         # 0, behind 2, and 4, the mate of 2; then 3 and 1.
                         (("merge", 2), ("split", 1)), (("merge", 5), ("split", 3)))

    def test_turn_and_unturn(self):
        self.assert_back(BALL, (("turn", 0), ("unturn", 0)), (("turn", 11), ("unturn", 11)),
                         (("unturn", 0), ("turn", 0)), (("unturn", 11), ("turn", 11)))

    def test_cut(self):
        self.assert_back(ring(4), (("cut", 0, 2), ("join", 4)), (("cut", 3, 3), ("join", 4)))
        self.assert_back(HANDLE, (("cut", 3, 1), ("join", 4)))

    def test_join(self):
        self.assert_back(TWO_TRIANGLES, (("join", 0), ("cut", 0, 2)), (("join", 3), ("cut", 2, 0)))
        # Behind 0 comes 1, behind its mate 8 comes 6.
        self.assert_back(BALL, (("join", 0), ("cut", 0, 5)), (("join", 8), ("cut", 5, 0)))

    def test_join_where_a_patch_is_of_one(self):
        self.assert_back(((0, 3, 1, 2), (1, 0, N, N)), (("join", 0), ("cut", 1, 1)), (("join", 1), ("cut", 1, 1)))
        self.assert_back(((1, 3, 2, 0), (N, N, 3, 2)), (("join", 2), ("cut", 0, 0)), (("join", 3), ("cut", 0, 0)))

    def test_part_and_grow(self):
        self.assert_back(HANDLE, (("part", 0, 2), ("draw", 4)), (("part", 3, 3), ("draw", 4)))
        self.assert_back(FAN, (("part", 6, 0), ("draw", 9)), (("grow", 3), ("draw", 9)), (("grow", 7), ("draw", 9)))

    def test_draw(self):
        self.assert_back(BALL, (("draw", 0), ("part", 0, 5)), (("draw", 8), ("part", 5, 0)))

    def test_draw_where_the_mate_is_behind_or_ahead(self):
        skin = (ring(5)[0], (N, 2, 1, N, N))
        self.assert_back(skin, (("draw", 1), ("part", 1, 1)), (("draw", 2), ("part", 1, 1)))
        self.assert_back(PURSE, (("draw", 0), ("part", 0, 0)), (("draw", 1), ("part", 0, 0)))

    def test_draw_at_a_rim(self):
        self.assert_back(ring(3), (("draw", 0), ("grow", 0)), (("draw", 1), ("grow", 1)), (("draw", 2), ("grow", 0)))
        self.assert_back(FAN, (("draw", 7), ("grow", 7)), (("draw", 1), ("grow", 1)))

    def test_puff(self):
        self.assert_back(LONE, (("puff", 0), ("fold", 1)))
        self.assert_back(BALL, (("puff", 7), ("fold", 12)))

    def test_fold(self):
        self.assert_back(((1, 0, 3, 2), (2, 3, 0, 1)), (("fold", 0), ("puff", 0)), (("fold", 1), ("puff", 1)),
                         (("fold", 2), ("puff", 0)), (("fold", 3), ("puff", 1)))

    def test_fold_where_one_has_no_mate(self):
        self.assert_back(((1, 0, 2, 3), (2, N, 0, N)), (("fold", 0), ("puff", 0)), (("fold", 1), ("puff", 0)))
        self.assert_back(((0, 1, 3, 2), (N, 3, N, 1)), (("fold", 2), ("puff", 1)), (("fold", 3), ("puff", 1)))

    def test_cap_and_open(self):
        self.assert_back(ring(3), (("cap", 1), ("open", 3)))
        self.assert_back(TWO_SQUARES, (("cap", 6), ("open", 8)))
        # The mate of 0 is 8, that of 5 is 6, that of 11 is 1.
        self.assert_back(BALL, (("open", 0), ("cap", 5)), (("open", 5), ("cap", 3)), (("open", 11), ("cap", 1)))

    def test_sew_and_rip(self):
        self.assert_back(ring(3), (("sew", 0, 2), ("rip", 0)), (("sew", 2, 0), ("rip", 2)))
        self.assert_back(BALL, (("rip", 0), ("sew", 0, 8)), (("rip", 8), ("sew", 8, 0)))

    def test_refused_as_the_deed(self):
        self.assert_back(LONE, (("merge", 0), "knot"), (("join", 0), "rim"), (("turn", 0), "rim"),
                         (("unturn", 0), "rim"), (("fold", 0), "two"), (("draw", 0), "loop"), (("open", 0), "rim"),
                         (("rip", 0), "rim"), (("sew", 0, 0), "Unlike"))
        self.assert_back(TWO_SINGLES, (("join", 0), "last"), (("grow", 0), "inner"), (("cap", 0), "NoRim"),
                         (("sew", 0, 1), "NoRim"), (("cut", 0, 1), "Unlike"))
        self.assert_back(ring(400), (("split", 0), "TooMany"), (("cut", 0, 0), "TooMany"), (("puff", 0), "TooMany"),
                         (("part", 0, 0), "TooMany"), (("grow", 0), "TooMany"), (("cap", 0), "TooMany"))


class TestForetold(unittest.TestCase):
    def test_by_hand(self):
        for skin, deed, wanted in (
                (BALL, ("split", 0), (1, 1, 0, 0, 0, 0)),
                (ring(3), ("merge", 0), (-1, -1, 0, 0, 0, 0)),
                (HANDLE, ("cut", 0, 2), (0, 1, 1, 0, 0, 0)),
                (BALL, ("join", 0), (0, -1, -1, 0, 0, 0)),
                (BALL, ("turn", 0), (0, 0, 0, 0, 0, 0)),
                (BALL, ("unturn", 0), (0, 0, 0, 0, 0, 0)),
                (((1, 0, 3, 2), (2, 3, 0, 1)), ("fold", 0), (0, -1, -1, 0, 0, 0)),
                (LONE, ("puff", 0), (0, 1, 1, 0, 0, 0)),
                (BALL, ("draw", 0), (-1, -1, 0, 0, 0, 0)),
                (HANDLE, ("part", 0, 1), (1, 1, 0, 0, 0, 0)),
                (FAN, ("grow", 3), (1, 1, 0, 0, 0, 0)),
                (FAN, ("cap", 1), (0, 0, 1, -1, 0, 0)),
                (BALL, ("open", 0), (0, 0, -1, 1, 0, 0)),
                (TUBE, ("sew", 0, 2), (-1, -1, 0, -2, 1, 0)),
                (single_patches(2), ("sew", 0, 1), (-1, -1, 0, -2, 0, -1)),
                (HANDLE, ("rip", 0), (1, 1, 0, 2, -1, 0)),
                (TWO_SINGLES, ("rip", 0), (1, 1, 0, 2, 0, 1))):
            told = foretold(skin, deed)
            self.assertEqual(told, wanted, (skin, deed))
            self.assertTrue(made_as_told(told))

    def test_refused_as_the_deed(self):
        for skin, deed, wanted in (
                (LONE, ("draw", 0), "loop"), (TWO_TRIANGLES, ("draw", 0), "rims"),
                (TWO_SINGLES, ("cut", 0, 1), "Unlike"), (BALL, ("cap", 0), "NoRim"),
                (ring(400), ("cap", 0), "TooMany"), (BALL, ("sew", 0, 12), "NoHalf")):
            self.assertEqual(outcome(foretold, skin, deed), wanted, (skin, deed))


if __name__ == "__main__":
    unittest.main()
