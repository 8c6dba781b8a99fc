"""Point 37: skins and deeds as texts."""

import unittest

from halfseams.deeds import is_deed
from halfseams.skins import is_skin
from halfseams.texts import deed_text, read_deed, read_skin, skin_text
from tests.by_words import WORDS_OF_ONE, WORDS_OF_TWO, Cloth, all_deeds
from tests.checks import outcome
from tests.samples import (
    BALL, BY_HAND, FAN, HANDLE, LONE, PATCH_OF_MATES, PILLOW, PURSE, TUBE, TWO_SINGLES, TWO_TRIANGLES,
    large_skins, middle_skins, mixed_skin, one_of_each, renumbered, ring, side_by_side, single_patches, small_skins)

N = None
NO_TEXTS = (0, 1, -1, 10 ** 60, True, False, N, (), [], ("0 | -",), ["0 | -"], ("split 0",), ["split 0"], ("split", 0),
            ["split", 0], ((0,), (N,)), [[0], [N]], (((0,), (N,)),), b"0 | -", b"split 0", 1.5, {})
# What is put into a text, at each place, or in the place of each sign.
SIGNS = " 01239;|-,.:+~aA_\n\t"

TEXTS = (
    (LONE, "0 | -"),
    (single_patches(3), "0; 1; 2 | -"),
    (ring(3), "0 1 2 | -"),
    (((2, 0, 1), (N, N, N)), "0 2 1 | -"),
    (TWO_SINGLES, "0; 1 | 0-1"),
    (PATCH_OF_MATES, "0 1 | 0-1"),
    (PURSE, "0 1 2 | 0-1"),
    (TWO_TRIANGLES, "0 1 2; 3 4 5 | 0-3"),
    (PILLOW, "0 1 2; 3 4 5 | 0-3 1-5 2-4"),
    (HANDLE, "0 1 2 3 | 0-2 1-3"),
    (TUBE, "0 1 2 3 | 1-3"),
    (FAN, "0 1 2; 3 4 5; 6 7 8 | 0-5 3-8"),
    (BALL, "0 1 2; 3 4 5; 6 7 8; 9 10 11 | 0-8 1-11 2-3 4-10 5-6 7-9"),
    (BY_HAND[14].skin, "0 2 4; 1; 3 5 | 3-5"),
    (((10, 0, 1, 2, 3, 4, 5, 6, 7, 8, 9), (N,) * 11), "0 10 9 8 7 6 5 4 3 2 1 | -"),
    (((1, 0) + tuple(range(2, 101)), (100,) + (N,) * 99 + (0,)),
     "0 1; " + "; ".join(str(half) for half in range(2, 101)) + " | 0-100"),
)


def written_by_the_words(skin):
    """The text of a skin, from the patches and mates of another telling."""
    cloth = Cloth(skin)
    rows = sorted((patch[patch.index(min(patch)):] + patch[:patch.index(min(patch))] for patch in cloth.patches))
    pairs = sorted((half, mate) for half, mate in cloth.mates.items() if mate is not None and half < mate)
    told = "; ".join(" ".join(map(str, row)) for row in rows) + " | "
    return told + (" ".join(f"{half}-{mate}" for half, mate in pairs) if pairs else "-")


def many_skins():
    return [told.skin for told in BY_HAND] + list(small_skins(4)) + list(one_of_each(5)) + middle_skins() + large_skins()


class TestSkins(unittest.TestCase):
    def assert_none(self, *texts):
        for text in texts:
            self.assertEqual(outcome(read_skin, text), "NoText", repr(text))

    def test_by_hand(self):
        for skin, text in TEXTS:
            self.assertTrue(is_skin(skin))
            self.assertEqual(skin_text(skin), text)
            self.assertEqual(read_skin(text), skin)
            self.assertEqual((skin_text(skin), read_skin(text)), (text, skin))

    def test_many_read_back_to_the_same(self):
        for seed, first in enumerate(many_skins()):
            for skin in (first, renumbered(first, seed)[0]):
                text = skin_text(skin)
                self.assertIs(type(text), str)
                self.assertEqual(text, written_by_the_words(skin))
                read = read_skin(text)
                self.assertEqual(read, skin)
                self.assertTrue(is_skin(read))

    def test_no_two_skins_have_one_text(self):
        skins = list(small_skins(4))
        self.assertEqual(len({skin_text(skin) for skin in skins}), len(skins))

    def test_patches_in_another_order_or_begun_elsewhere(self):
        self.assert_none("3 4 5; 0 1 2 | 0-3", "1 2 0; 3 4 5 | 0-3", "0 1 2; 4 5 3 | 0-3", "1; 0 | 0-1", "1 0 | -",
                         "2 0 1 | -", "0; 2; 1 | -", "1; 0 2 | -", "0 10 2 3 4 5 6 7 8 9; 11; 1 | -")

    def test_mates_the_other_way_about_or_not_rising(self):
        self.assert_none("0; 1 | 1-0", "0 1 2; 3 4 5 | 3-0", "0 1 2 3 | 1-3 0-2", "0 1 2 3 | 0-2 3-1", "0 1 2 3 | 2-0 1-3",
                         "0 1 2; 3 4 5 | 0-3 2-4 1-5")

    def test_a_number_twice(self):
        self.assert_none("0 0 | -", "0 1 1 | -", "0 1; 1 | -", "0; 0 | -", "0 1 0 | -", "0 1 2 | 0-1 0-2",
                         "0 1 2 | 0-1 1-2", "0 1 | 0-1 0-1", "0 1 | 0-0", "0 | 0-0", "0 1 | 0-1 1-0", "0 1 | 0-0 1-1",
                         "0 1 2 3 | 0-1 0-1 2-3", "0 1 2 3 | 0-2 1-2", "0 1 2 3 | 0-3 1-2 2-3")

    def test_one_lacking(self):
        self.assert_none("1 | -", "0 2 | -", "0; 2 | -", "1 2 | 1-2", "0 1 3 | -", "0 1 | 0-2", "0 1 | 1-2", "0 | 0-1",
                         "0 1 | 2-3", "0 1 | 0-999999999", "999999999 | -", "0 999999999 | -", "0 1 | 0-9999999999",
                         "0 " + "9" * 5000 + " | -", "0 1 | 0-" + "1" * 5000)

    def test_noughts_ahead(self):
        self.assert_none("00 | -", "0 01 | -", "0; 01 | 0-1", "0; 1 | 00-1", "0; 1 | 0-01", "0; 1 | 0-001", "000 | -",
                         "0 1 2; 3 4 05 | -")

    def test_blanks_more_or_fewer(self):
        self.assert_none(" 0 | -", "0 | - ", "0  | -", "0 |  -", "0| -", "0 |-", "0|-", "0  1 | -", "0 1;2 | -",
                         "0 1;  2 | -", "0 1 ; 2 | -", "0 1; 2  | -", "0; 1 | 0 -1", "0; 1 | 0- 1", "0; 1 | 0 - 1",
                         "0 1 2 3 | 0-2  1-3", "0 1 2 3 | 0-21-3", "0 1 2 3 | 0-2 1-3 ", "0 1 2 3 |  0-2 1-3")

    def test_parts_of_the_text_lacking_or_twice(self):
        self.assert_none("", " ", "|", " | ", "-", "0", "0 1", "0 |", "0 | ", "| -", " | -", "0 1 | 0-", "0 1 | -1",
                         "0 1 | 0", "0 1 | 0-1-0", "0 1 | 0--1", "0 1 | - -", "0 | --", "0 1 | 0-1 -", "0 1 | - 0-1",
                         "0 | - | -", "0 | 0 | -", "0; | -", "; 0 | -", "0;  | -", "0; ; 1 | -", "; | -", "0 1 | -; -",
                         "0 1 | 0-1;", "0 1; | 0-1", "0 1 | 0-1 | -", "0 1 | 0-1 |")

    def test_other_signs(self):
        self.assert_none("0 | -\n", "\n0 | -", "0 | \n-", "0\n| -", "0 |\n-", "0\t| -", "0, 1 | -", "0 1 | 0,1", "a | -",
                         "0 a | -", "0 1 | 0-b", "+0 | -", "-0 | -", "0 -1 | -", "0 1 | -0-1", "0 1 | 0-+1", "0.0 | -",
                         "0 1_0 | -", "(0) | -", "0 | None", "0 | no", "0 1 | 0:1", "0 1 | 0~1", "\u0660 | -", "0 \u00b9 | -",
                         "0 \u0661 | -", "\uff10 | -", "0 1 2; 3 4 5 | 0-3\n", "0x0 | -", "0 1 | 0-1.", "\"0 | -\"", "'0 | -'")

    def test_more_than_400(self):
        self.assertEqual(read_skin(skin_text(ring(400))), ring(400))
        for skin in (ring(401), single_patches(401), ring(1000), side_by_side(*[PATCH_OF_MATES] * 201),
                     mixed_skin(401, 100, 3)):
            self.assert_none(written_by_the_words(skin))

    def test_what_is_no_text(self):
        self.assert_none(*NO_TEXTS)
        for skin in (LONE, BALL):
            self.assert_none(skin, list(skin), (skin_text(skin),), [skin_text(skin)])

    def test_deeds_are_no_skins(self):
        self.assert_none("split 0", "cut 0 1", "undo", "skin")

    def test_each_sign_otherwise(self):
        for skin, text in TEXTS[:14]:
            others = {text[:at] + text[at + 1:] for at in range(len(text))}
            others |= {text[:at] + sign + text[at:] for at in range(len(text) + 1) for sign in SIGNS}
            others |= {text[:at] + sign + text[at + 1:] for at in range(len(text)) for sign in SIGNS}
            for other in sorted(others - {text}):
                told = outcome(read_skin, other)
                # Some of these do write a skin, but then another one, and just as it is written.
                if told != "NoText":
                    self.assertTrue(is_skin(told), other)
                    self.assertNotEqual(told, skin)
                    self.assertEqual(written_by_the_words(told), other)

    def test_all_short_texts(self):
        told = {}
        texts = [""]
        for length in range(7):
            for text in texts:
                found = outcome(read_skin, text)
                if found != "NoText":
                    told[text] = found
            texts = [text + sign for text in texts for sign in "01 ;|-"]
        self.assertEqual(told, {"0 | -": LONE})
        wanted = {written_by_the_words(skin): skin for skin in small_skins(2)}
        self.assertEqual(sorted(wanted), ["0 1 | -", "0 1 | 0-1", "0 | -", "0; 1 | -", "0; 1 | 0-1"])


class TestDeeds(unittest.TestCase):
    def assert_none(self, *texts):
        for text in texts:
            self.assertEqual(outcome(read_deed, text), "NoText", repr(text))

    def test_by_hand(self):
        for deed, text in (
                (("split", 0), "split 0"), (("merge", 1), "merge 1"), (("join", 9), "join 9"), (("turn", 10), "turn 10"),
                (("unturn", 99), "unturn 99"), (("fold", 100), "fold 100"), (("puff", 399), "puff 399"),
                (("draw", 400), "draw 400"), (("grow", 12345), "grow 12345"), (("cap", 999999999), "cap 999999999"),
                (("open", 100000000), "open 100000000"), (("rip", 7), "rip 7"), (("cut", 0, 0), "cut 0 0"),
                (("part", 12, 345), "part 12 345"), (("sew", 999999999, 0), "sew 999999999 0")):
            self.assertEqual(deed_text(deed), text)
            self.assertEqual(read_deed(text), deed)
            self.assertTrue(is_deed(read_deed(text)))

    def test_all_words_read_back_to_the_same(self):
        deeds = list(all_deeds(12))
        numbers = (0, 9, 10, 11, 99, 100, 101, 399, 400, 123456789, 999999999)
        deeds += [(word, number) for word in WORDS_OF_ONE for number in numbers]
        deeds += [(word, one, other) for word in WORDS_OF_TWO for one in numbers for other in numbers]
        for deed in deeds:
            text = deed_text(deed)
            self.assertEqual(text, " ".join(map(str, deed)))
            read = read_deed(text)
            self.assertEqual(read, deed)
            self.assertEqual([type(part) for part in read], [str] + [int] * (len(deed) - 1))

    def test_one_number_more_or_less(self):
        for word in WORDS_OF_ONE:
            self.assert_none(word, word + " ", word + " 0 1", word + " 0 0 0", word + " 0 ", word + "0")
        for word in WORDS_OF_TWO:
            self.assert_none(word, word + " 0", word + " 0 ", word + " 0 1 2", word + " 0 1 ", word + " 01", word + "0 1")

    def test_figures(self):
        for wrong in ("00", "01", "000", "0000000001", "1000000000", "1234567890", "9999999999", "-1", "-0", "+1", "1.0",
                      "1_0", "", "a", "x1", "1x", "0x1", "1\n", "\n1", "\t1", "1\t", "\u0661", "\u00b2", "\uff11", "None",
                      "True", "1" * 5000):
            for word in WORDS_OF_ONE:
                self.assert_none(word + " " + wrong)
            for word in WORDS_OF_TWO:
                self.assert_none(word + " " + wrong + " 0", word + " 0 " + wrong, word + " " + wrong + " " + wrong)

    def test_blanks(self):
        for text in ("split 0", "cut 0 1", "open 12"):
            self.assert_none(" " + text, text + " ", text.replace(" ", "  "), text.replace(" ", ""),
                             text.replace(" ", "\t"), text.replace(" ", "\n"), text + "\n", "\n" + text,
                             text.replace(" ", ", "), text + ";", text + " |")

    def test_other_words(self):
        self.assert_none("", " ", "0", "0 0", "splits 0", "Split 0", "SPLIT 0", "spli 0", "merged 0", "sewn 0 1", "mark 0 a",
                         "mark 0 0", "mark 0 -", "undo", "redo", "undo 0", "skin", "skin 0", "patch 0", "knot 0", "tell split 0",
                         "back split 0", "alike 0 | -", "0 split", "split 0 split 0", "split split", "split 0; merge 0",
                         "0 | -", "0 1 2; 3 4 5 | 0-3", "do split 0")

    def test_what_is_no_text(self):
        self.assert_none(*NO_TEXTS)
        self.assert_none(("split 0", "merge 0"), ("cut", 0, 1), ["cut", 0, 1])


if __name__ == "__main__":
    unittest.main()
