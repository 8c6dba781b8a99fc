"""Points 13 to 23, and point 3 as far as it speaks of deeds: all deeds on many skins, held against by_words."""

import unittest

from halfseams.counts import totals
from halfseams.cuts import cut, folded, joined, merged, puffed, split, turned, unturned
from halfseams.deeds import back_deed, done, foretold, is_deed
from halfseams.forms import told_form
from halfseams.knotwork import drawn, grown, parted
from halfseams.rimwork import capped, opened, ripped, sewn
from halfseams.skins import is_skin
from tests.by_words import Cloth, all_deeds, behind
from tests.checks import changes, made_as_told, outcome
from tests.samples import BY_HAND, large_skins, middle_skins, one_of_each, shuffled, small_skins

FUNCTIONS = {
    "split": split, "merge": merged, "cut": cut, "join": joined, "turn": turned, "unturn": unturned, "fold": folded,
    "puff": puffed, "draw": drawn, "part": parted, "grow": grown, "cap": capped, "open": opened, "sew": sewn,
    "rip": ripped}

# Knots, seams, patches, rims, handles, parts: what stands in brackets behind each deed.
CHANGES = {
    "split": (1, 1, 0, 0, 0, 0), "merge": (-1, -1, 0, 0, 0, 0), "cut": (0, 1, 1, 0, 0, 0),
    "join": (0, -1, -1, 0, 0, 0), "turn": (0, 0, 0, 0, 0, 0), "unturn": (0, 0, 0, 0, 0, 0),
    "fold": (0, -1, -1, 0, 0, 0), "puff": (0, 1, 1, 0, 0, 0), "draw": (-1, -1, 0, 0, 0, 0),
    "part": (1, 1, 0, 0, 0, 0), "grow": (1, 1, 0, 0, 0, 0), "cap": (0, 0, 1, -1, 0, 0), "open": (0, 0, -1, 1, 0, 0)}
TAKE_AWAY = ("merge", "join", "draw", "fold", "open")


def changed_by_sewing(cloth, h, k):
    """How the totals change, by the list in point 20."""
    rim, other = cloth.rim(h), cloth.rim(k)
    if k in rim:
        if len(rim) == 2:
            return 0, -1, 0, -1, 0, 0
        if cloth.along(h) == k or cloth.along(k) == h:
            return -1, -1, 0, 0, 0, 0
        return -2, -1, 0, 1, 0, 0
    one_part = any(h in part and k in part for part in cloth.parts())
    handles, parts = (1, 0) if one_part else (0, -1)
    if len(rim) == len(other) == 1:
        return -1, -1, 0, -2, handles, parts
    return -2, -1, 0, -1, handles, parts


def changed_by(skin, deed):
    """How the deed changes the totals, by what the document says behind it."""
    word, half, other = deed[0], deed[1], deed[-1]
    if word == "sew":
        return changed_by_sewing(Cloth(skin), half, other)
    if word == "rip":
        ripped_apart = behind(skin, deed)
        return tuple(-change for change in changed_by_sewing(Cloth(ripped_apart), half, skin[1][half]))
    return CHANGES[word]


class TestMany(unittest.TestCase):
    def assert_deeds(self, skin, deeds):
        before = (tuple(list(skin[0])), tuple(list(skin[1])))
        whole, form, cloth = totals(skin), told_form(skin), Cloth(skin)
        for deed in deeds:
            where = (skin, deed)
            self.assertIs(is_deed(deed), True, where)
            told = outcome(FUNCTIONS[deed[0]], skin, *deed[1:])
            self.assertEqual(outcome(done, skin, deed), told, where)
            refusal = cloth.refused(*deed)
            if refusal is not None:
                self.assertEqual(told, refusal, where)
                self.assertEqual(outcome(back_deed, skin, deed), refusal, where)
                self.assertEqual(outcome(foretold, skin, deed), refusal, where)
                continue
            self.assertEqual(told, behind(skin, deed), where)
            self.assertTrue(is_skin(told), where)
            change = changed_by(skin, deed)
            self.assertEqual(changes(whole, totals(told)), change, where)
            self.assertEqual(foretold(skin, deed), change, where)
            self.assertTrue(made_as_told((told, foretold(skin, deed))), where)
            self.assert_back(skin, form, deed, told)
        self.assertEqual(skin, before)

    def assert_back(self, skin, form, deed, told):
        back = back_deed(skin, deed)
        self.assertTrue(is_deed(back), (skin, deed, back))
        led_back = outcome(done, told, back)
        if deed[0] in TAKE_AWAY:
            self.assertTrue(is_skin(led_back), (skin, deed, back))
            self.assertEqual(told_form(led_back), form, (skin, deed, back))
        else:
            self.assertEqual(led_back, skin, (skin, deed, back))

    def test_all_deeds_on_all_small_skins(self):
        for skin in small_skins(4):
            self.assert_deeds(skin, all_deeds(len(skin[0]), FUNCTIONS))

    def test_all_deeds_on_one_skin_of_each_kind(self):
        for skin in list(one_of_each(5)) + list(one_of_each(6))[::3]:
            self.assert_deeds(skin, all_deeds(len(skin[0]), FUNCTIONS))

    def test_all_deeds_on_skins_by_hand(self):
        for told in BY_HAND:
            self.assert_deeds(told.skin, all_deeds(len(told.skin[0]), FUNCTIONS))

    def test_some_deeds_on_middle_skins(self):
        for seed, skin in enumerate(middle_skins()):
            self.assert_deeds(skin, shuffled(all_deeds(len(skin[0]), FUNCTIONS), seed)[:100])

    def test_some_deeds_on_large_skins(self):
        places = (0, 1, 57, 200, 398, 399)
        some = [(word, *[places[number] for number in numbers]) for word, *numbers in all_deeds(6, FUNCTIONS)]
        for seed, skin in enumerate(large_skins()):
            self.assert_deeds(skin, shuffled(some, seed)[:25])


if __name__ == "__main__":
    unittest.main()
