"""Point 32, and point 3 as far as it speaks of marks: marks carried over deeds."""

import unittest

from halfseams.deeds import done
from halfseams.marks import carried
from tests.by_words import Cloth, all_deeds, labels_behind
from tests.checks import outcome
from tests.samples import (
    BALL, BY_HAND, FAN, HANDLE, LONE, PATCH_OF_MATES, PILLOW, PURSE, TWO_SINGLES, TWO_TRIANGLES, grid, large_skins,
    middle_skins, one_of_each, ring, shuffled, single_patches, small_skins)

N = None
# Things of which none is a mark.
NO_MARKS = (
    "", "abcdefghi", "A", "aB", "Abc", "abC", "a1", "1", "0", "a b", " ", " a", "a ", "a\n", "\n", "-", "a-b", "_", "~",
    "`", "{", "a.", "zzzzzzzzz", "\u00e4", "\u03b1", "\u00df", 0, 1, -1, 97, True, False, (), ("a",), (N,), [], ["a"], b"a",
    1.0)
# Deeds with what they are refused with.
REFUSED_DEEDS = (
    (LONE, ("split", 1), "NoHalf"), (LONE, ("split", -1), "NoHalf"), (LONE, ("merge", 0), "knot"),
    (LONE, ("join", 0), "rim"), (LONE, ("turn", 0), "rim"), (LONE, ("unturn", 0), "rim"), (LONE, ("fold", 0), "two"),
    (LONE, ("draw", 0), "loop"), (LONE, ("open", 0), "rim"), (LONE, ("rip", 0), "rim"),
    (LONE, ("sew", 0, 0), "Unlike"), (LONE, ("sew", 0, 1), "NoHalf"), (TWO_SINGLES, ("join", 0), "last"),
    (TWO_SINGLES, ("grow", 0), "inner"), (TWO_SINGLES, ("cap", 0), "NoRim"), (TWO_SINGLES, ("sew", 0, 1), "NoRim"),
    (TWO_SINGLES, ("cut", 0, 1), "Unlike"), (PATCH_OF_MATES, ("join", 0), "one"), (PATCH_OF_MATES, ("fold", 0), "last"),
    (PATCH_OF_MATES, ("draw", 0), "last"), (PATCH_OF_MATES, ("part", 0, 1), "Unlike"),
    (TWO_TRIANGLES, ("draw", 0), "rims"))


def named(many):
    """Marks of so many half seams, no two alike."""
    letters = "abcdefghijklmnopqrstuvwxyz"
    return tuple(letters[half // 26] + letters[half % 26] for half in range(many))


class TestByHand(unittest.TestCase):
    def assert_carried(self, skin, letters, *cases):
        """Of each case a deed and the marks behind it, written as letters, with a point for none."""
        marks = written(letters)
        for deed, wanted in cases:
            told = carried(skin, marks, deed)
            self.assertEqual(told, written(wanted), (skin, deed))
            self.assertEqual(len(told), len(done(skin, deed)[0]))
            self.assertEqual(carried(skin, marks, deed), told)
        self.assertEqual(marks, written(letters))

    def test_split(self):
        self.assert_carried(ring(2), "ab", (("split", 0), "aba"), (("split", 1), "abb"))
        # 3 is the mate of 0.
        self.assert_carried(TWO_TRIANGLES, "abcdef", (("split", 0), "abcdefad"), (("split", 3), "abcdefda"),
                            (("split", 1), "abcdefb"))
        self.assert_carried(TWO_TRIANGLES, "a..d..", (("split", 0), "a..d..ad"), (("split", 1), "a..d..."))
        self.assert_carried(TWO_TRIANGLES, ".bc.ef", (("split", 0), ".bc.ef.."), (("split", 5), ".bc.eff"))
        self.assert_carried(TWO_TRIANGLES, "a.....", (("split", 0), "a.....a."), (("split", 3), "a......a"))
        self.assert_carried(PATCH_OF_MATES, "aa", (("split", 0), "aaaa"), (("split", 1), "aaaa"))

    def test_merge(self):
        # 1 comes behind 0, 0 behind 2.
        self.assert_carried(ring(3), "abc", (("merge", 0), "ac"), (("merge", 1), "ab"), (("merge", 2), "bc"))
        # 5, behind 4, and 2, the mate of 4; then 1, behind 0, and 3.
        self.assert_carried(PILLOW, "abcdef", (("merge", 4), "abde"), (("merge", 0), "acef"))

    def test_cut_and_join(self):
        self.assert_carried(ring(3), "a.c", (("cut", 0, 1), "a.c.."), (("cut", 2, 2), "a.c.."))
        self.assert_carried(TWO_TRIANGLES, "abcdef", (("join", 0), "bcef"), (("join", 3), "bcef"))
        self.assert_carried(BALL, "abcdefghijkl", (("join", 1), "acdefghijk"))

    def test_turn_and_unturn(self):
        self.assert_carried(BALL, "abc.efgh.jkl", (("turn", 0), "abc.efgh.jkl"), (("unturn", 11), "abc.efgh.jkl"))

    def test_fold_and_puff(self):
        self.assert_carried(((1, 0, 3, 2), (2, 3, 0, 1)), "abcd", (("fold", 0), "cd"), (("fold", 3), "ab"))
        self.assert_carried(LONE, "a", (("puff", 0), "a.."))
        self.assert_carried(TWO_SINGLES, ".b", (("puff", 1), ".b.."))

    def test_draw_part_and_grow(self):
        self.assert_carried(BALL, "abcdefghijkl", (("draw", 0), "bcdefghjkl"), (("draw", 7), "abcdefgikl"))
        self.assert_carried(ring(3), "abc", (("draw", 1), "ac"), (("grow", 0), "abc."))
        self.assert_carried(HANDLE, "abcd", (("part", 0, 2), "abcd.."), (("part", 3, 3), "abcd.."))

    def test_cap_and_open(self):
        self.assert_carried(ring(3), "abc", (("cap", 1), "abc..."))
        self.assert_carried(FAN, "abcdefghi", (("cap", 1), "abcdefghi....."))
        self.assert_carried(BALL, "abcdefghijkl", (("open", 4), "abcghijkl"), (("open", 9), "abcdefghi"))
        self.assert_carried(TWO_SINGLES, "ab", (("open", 0), "b"), (("open", 1), "a"))

    def test_sew_and_rip(self):
        self.assert_carried(ring(3), "a.c", (("sew", 0, 1), "a.c"), (("sew", 2, 0), "a.c"))
        self.assert_carried(TWO_SINGLES, "ab", (("rip", 0), "ab"), (("rip", 1), "ab"))

    def test_long_and_short_words(self):
        for word in ("a", "z", "az", "abcdefgh", "ijklmnop", "qrstuvwx", "yz", "zzzzzzzz", "none", "mark"):
            self.assertEqual(carried(LONE, (word,), ("split", 0)), (word, word))
            self.assertEqual(carried(TWO_SINGLES, (N, word), ("puff", 0)), (N, word, N, N))

    def test_none_at_all(self):
        self.assertEqual(carried(ring(400), (N,) * 400, ("sew", 0, 399)), (N,) * 400)
        self.assertEqual(carried(ring(399), (N,) * 399, ("split", 7)), (N,) * 400)


def written(letters):
    """Marks of one letter each, a point for none."""
    return tuple(None if letter == "." else letter for letter in letters)


class TestNoMarks(unittest.TestCase):
    def assert_none(self, skin, marks, deed):
        self.assertEqual(outcome(carried, skin, marks, deed), "NoMarks", (skin, marks, deed))

    def test_too_few_or_too_many(self):
        for skin in (LONE, PURSE, BALL, ring(400)):
            many = len(skin[0])
            for mark in ("a", N):
                for length in (0, many - 1, many + 1, 2 * many):
                    self.assert_none(skin, (mark,) * length, ("split", 0))

    def test_other_things_in_the_place_of_the_tuple(self):
        self.assert_none(PURSE, ["a", "b", "c"], ("split", 0))
        self.assert_none(PURSE, [N, N, N], ("split", 0))
        self.assert_none(PURSE, "abc", ("split", 0))
        self.assert_none(LONE, "a", ("split", 0))
        for thing in (N, True, False, 0, 1, 3, "", "a", (), [], [[]], ((),), {}, b"a", ("a",) * 4, (("a", "b", "c"),)):
            self.assert_none(PURSE, thing, ("split", 0))
        for thing in (N, True, False, 0, 1, "", "a", (), [], ["a"], [N], (("a",),), ((N,),)):
            self.assert_none(LONE, thing, ("split", 0))

    def test_what_is_no_mark(self):
        for thing in NO_MARKS:
            self.assert_none(LONE, (thing,), ("split", 0))
            for place in range(3):
                marks = ["a", N, "abcdefgh"]
                marks[place] = thing
                self.assert_none(PURSE, tuple(marks), ("split", 0))
                self.assert_none(PURSE, tuple(marks), ("sew", 9, 9))

    def test_ahead_of_the_refusals_of_the_deed(self):
        too_many = [(ring(400), deed, "TooMany") for deed in (
            ("split", 0), ("cut", 0, 0), ("puff", 0), ("part", 0, 0), ("grow", 0), ("cap", 0))]
        for skin, deed, wanted in (*REFUSED_DEEDS, *too_many):
            many = len(skin[0])
            self.assert_none(skin, (N,) * (many - 1), deed)
            self.assert_none(skin, (N,) * (many + 1), deed)
            self.assert_none(skin, [N] * many, deed)
            self.assert_none(skin, (N,) * (many - 1) + ("",), deed)
            self.assert_none(skin, ("Abc",) + (N,) * (many - 1), deed)
            self.assertEqual(outcome(carried, skin, (N,) * many, deed), wanted, (skin, deed))
            self.assertEqual(outcome(carried, skin, ("a",) * many, deed), wanted, (skin, deed))


class TestMany(unittest.TestCase):
    def assert_deeds(self, skin, deeds):
        many = len(skin[0])
        cloth = Cloth(skin)
        full = named(many)
        half_full = tuple(mark if half % 3 else N for half, mark in enumerate(full))
        for deed in deeds:
            refusal = cloth.refused(*deed)
            for marks in (full, half_full):
                told = outcome(carried, skin, marks, deed)
                if refusal is not None:
                    self.assertEqual(told, refusal, (skin, deed))
                    continue
                new = {}
                if deed[0] == "split":
                    new = {many: deed[1], many + 1: skin[1][deed[1]]}
                came_from = [new.get(label, label) for label in labels_behind(skin, deed)]
                self.assertEqual(told, tuple(marks[one] if one < many else N for one in came_from), (skin, deed))
                self.assertEqual(len(told), len(done(skin, deed)[0]))

    def test_all_deeds_on_small_skins(self):
        for skin in list(small_skins(3)) + list(one_of_each(4)) + list(one_of_each(5))[::3]:
            self.assert_deeds(skin, all_deeds(len(skin[0])))

    def test_all_deeds_on_skins_by_hand(self):
        for told in BY_HAND:
            self.assert_deeds(told.skin, all_deeds(len(told.skin[0])))

    def test_some_deeds_on_middle_skins(self):
        for seed, skin in enumerate(middle_skins()):
            self.assert_deeds(skin, shuffled(all_deeds(len(skin[0])), seed)[:40])

    def test_some_deeds_on_large_skins(self):
        places = (0, 1, 57, 200, 398)
        some = [(word, *[places[number] for number in numbers]) for word, *numbers in all_deeds(5)]
        for seed, skin in enumerate(large_skins() + [grid(9, 11, True), single_patches(399)]):
            if len(skin[0]) > 398:
                self.assert_deeds(skin, shuffled(some, seed)[:12])


if __name__ == "__main__":
    unittest.main()
