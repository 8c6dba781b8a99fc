"""Points 13 to 18, and point 3 as far as it speaks of deeds: all deeds on many skins, held against by_words."""

import unittest

from halfseams.counts import totals
from halfseams.cuts import cut, folded, joined, merged, puffed, split, turned, unturned
from halfseams.knotwork import drawn, grown, parted
from halfseams.skins import is_skin
from tests.by_words import Cloth, all_deeds, behind
from tests.checks import changes, made_as_told, outcome
from tests.samples import BY_HAND, large_skins, middle_skins, one_of_each, shuffled, small_skins

FUNCTIONS = {
    "split": split, "merge": merged, "cut": cut, "join": joined, "turn": turned, "unturn": unturned, "fold": folded,
    "puff": puffed, "draw": drawn, "part": parted, "grow": grown}

# Knots, seams, patches, rims, handles, parts: what stands in brackets behind each deed.
CHANGES = {
    "split": (1, 1, 0, 0, 0, 0), "merge": (-1, -1, 0, 0, 0, 0), "cut": (0, 1, 1, 0, 0, 0),
    "join": (0, -1, -1, 0, 0, 0), "turn": (0, 0, 0, 0, 0, 0), "unturn": (0, 0, 0, 0, 0, 0),
    "fold": (0, -1, -1, 0, 0, 0), "puff": (0, 1, 1, 0, 0, 0), "draw": (-1, -1, 0, 0, 0, 0),
    "part": (1, 1, 0, 0, 0, 0), "grow": (1, 1, 0, 0, 0, 0)}


class TestMany(unittest.TestCase):
    def assert_deeds(self, skin, deeds):
        before = (tuple(list(skin[0])), tuple(list(skin[1])))
        whole = totals(skin)
        cloth = Cloth(skin)
        for deed in deeds:
            word, *numbers = deed
            told = outcome(FUNCTIONS[word], skin, *numbers)
            refusal = cloth.refused(*deed)
            if refusal is not None:
                self.assertEqual(told, refusal, (skin, deed))
                continue
            self.assertEqual(told, behind(skin, deed), (skin, deed))
            self.assertTrue(is_skin(told), (skin, deed))
            self.assertTrue(made_as_told(told), (skin, deed))
            self.assert_changed(word, changes(whole, totals(told)), (skin, deed))
        self.assertEqual(skin, before)

    def assert_changed(self, word, told, where):
        if word in CHANGES:
            self.assertEqual(told, CHANGES[word], where)

    def test_all_deeds_on_all_small_skins(self):
        for skin in small_skins(4):
            self.assert_deeds(skin, all_deeds(len(skin[0]), FUNCTIONS))

    def test_all_deeds_on_one_skin_of_each_kind(self):
        for skin in list(one_of_each(5)) + list(one_of_each(6)):
            self.assert_deeds(skin, all_deeds(len(skin[0]), FUNCTIONS))

    def test_all_deeds_on_skins_by_hand(self):
        for told in BY_HAND:
            self.assert_deeds(told.skin, all_deeds(len(told.skin[0]), FUNCTIONS))

    def test_some_deeds_on_middle_skins(self):
        for seed, skin in enumerate(middle_skins()):
            self.assert_deeds(skin, shuffled(all_deeds(len(skin[0]), FUNCTIONS), seed)[:150])

    def test_some_deeds_on_large_skins(self):
        for seed, skin in enumerate(large_skins()):
            some = [(word, *numbers) for word, *numbers in all_deeds(400, FUNCTIONS)
                    if all(number in (0, 1, 57, 398, 399) for number in numbers)]
            self.assert_deeds(skin, shuffled(some, seed)[:25])


if __name__ == "__main__":
    unittest.main()
