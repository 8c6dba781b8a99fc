"""Points 2 and 3 over the whole program: the same asked again, the kinds of what is told, and what was handed in."""

import unittest

from halfseams.byknots import by_knots, told_by_knots
from halfseams.counts import counts, parts, totals
from halfseams.cuts import cut, folded, joined, merged, puffed, split, turned, unturned
from halfseams.deeds import back_deed, done, foretold, is_deed
from halfseams.desk import Desk
from halfseams.finer import far_ahead, far_mate, far_onward, far_totals, finer
from halfseams.forms import form_from, lead, leads_many, mirrored, told_form
from halfseams.inside import inside_out
from halfseams.knotwork import drawn, grown, parted
from halfseams.marks import carried
from halfseams.plain import harmless, is_plain, shrunk
from halfseams.rimwork import capped, opened, ripped, sewn
from halfseams.rows import fewest_row, forms_many, walked
from halfseams.skins import broken, is_skin
from halfseams.tailors import Tailor
from halfseams.texts import deed_text, read_deed, read_skin, skin_text
from halfseams.walkers import Walker
from halfseams.walks import ahead_of, knots, left_of, patch_of, patches, right_of, rim_of, rims, round_knot, seams
from tests.by_words import all_deeds
from tests.checks import outcome
from tests.rows_of_knots import BALL_ROWS, double_tent
from tests.samples import (
    BALL, BY_HAND, PURSE, grid, middle_skins, mixed_skin, renumbered, ring, shuffled, side_by_side, small_skins,
    triangles)
from tests.test_marks import named

N = None
OF_A_SKIN = (
    is_skin, knots, seams, patches, rims, parts, counts, totals, told_by_knots, is_plain, told_form, leads_many, mirrored,
    inside_out, finer, forms_many, skin_text)
OF_A_HALF = (
    ahead_of, patch_of, round_knot, left_of, right_of, rim_of, split, merged, joined, turned, unturned, folded, puffed,
    drawn, grown, capped, opened, ripped, harmless, shrunk, form_from)
OF_TWO_HALVES = (cut, parted, sewn)
OF_A_DEED = (done, back_deed, foretold)
FAR = (far_onward, far_ahead, far_mate)


def many_skins():
    found = [told.skin for told in BY_HAND] + list(small_skins(3)) + list(small_skins(4))[::29] + middle_skins()[::6]
    found += [by_knots(BALL_ROWS), by_knots(double_tent(3)), by_knots(double_tent(5)), triangles(6, 9, 3)]
    return found + [grid(5, 5, False), side_by_side(PURSE, BALL, PURSE), mixed_skin(100, 45, 8)]


def made_anew(thing):
    """The same, with no tuple or list of it kept."""
    if isinstance(thing, (tuple, list)):
        return type(thing)([made_anew(part) for part in thing])
    return thing


def of_the_kinds_named(thing):
    """Whether it is a number, a text, a truth, None, or a tuple of such, tuples all the way down."""
    if type(thing) is tuple:
        return all(of_the_kinds_named(part) for part in thing)
    return thing is None or type(thing) in (int, str, bool)


def questions(skin, seed):
    """Many questions about a skin: functions with all that is handed in."""
    many = len(skin[0])
    halves = sorted({-1, 0, 1, many // 2, many - 1, many, seed % many})
    other = renumbered(skin, seed)[0]
    asked = [(function, skin) for function in OF_A_SKIN] + [(broken, *skin)]
    asked += [(function, skin, half) for function in OF_A_HALF for half in halves]
    asked += [(function, skin, one, two) for function in OF_TWO_HALVES for one in halves for two in halves[::2]]
    deeds = shuffled(all_deeds(min(many + 1, 12)), seed)[:30]
    asked += [(function, skin, deed) for function in OF_A_DEED for deed in deeds]
    asked += [(carried, skin, marks, deed) for marks in (named(many), (N,) * many, ("A",) * many) for deed in deeds]
    asked += [(function, skin, times, number) for function in FAR for times in (-1, 0, 2, 60)
              for number in (*halves, many * 16 - 1, many * 4 ** 60 - 1)]
    asked += [(far_totals, skin, times) for times in (-1, 0, 7, 60, 61)]
    asked += [(function, one, two) for function in (lead, fewest_row)
              for one, two in ((skin, other), (other, skin), (skin, BALL), (BALL, skin))]
    asked += [(walked, skin, row) for row in ((), (0,), (0, many - 1, 0), (many,))]
    asked += [(is_deed, deed) for deed in deeds] + [(deed_text, deed) for deed in deeds]
    asked += [(read_deed, deed_text(deed)) for deed in deeds] + [(read_deed, skin), (read_skin, skin)]
    text = skin_text(skin)
    asked += [(read_skin, text), (read_skin, text + " "), (by_knots, told_by_knots(skin)), (by_knots, (skin[0], ()))]
    return asked + [(told_by_a_walker, skin, seed), (told_by_a_tailor, skin, seed), (told_by_a_desk, skin, seed)]


def told_by_a_walker(skin, seed):
    """All that a walker says on a long way."""
    walker = Walker(skin, seed % len(skin[0]))
    told = []
    for step in range(12):
        for call in (walker.on, walker.left, walker.ahead, walker.right):
            told.append(outcome(call, (seed + step) * 7 % 5 - 1))
        told.extend([walker.over(), walker.at(), walker.deeds(), outcome(walker.back), walker.at()])
    return tuple(told)


def told_by_a_tailor(skin, seed):
    """All that a tailor says to many deeds, marks, undone and done again."""
    tailor = Tailor(skin)
    told = []
    for step, deed in enumerate(shuffled(all_deeds(min(len(skin[0]) + 1, 9)), seed)[:12]):
        told.append(outcome(tailor.do, deed))
        told.append(outcome(tailor.mark, step % 4, ("a", N, "", "bcd", 7)[step % 5]))
        told.append(outcome(tailor.undo if step % 3 else tailor.redo))
        told.extend([tailor.skin(), tailor.marks(), tailor.deeds(), tailor.counts(), tailor.news()])
        told.extend([outcome(tailor.skin_behind, many) for many in range(-1, 4)])
    return tuple(told)


def told_by_a_desk(skin, seed):
    """All that a desk says to many rows."""
    desk = Desk(skin_text(skin))
    told = []
    for step, deed in enumerate(shuffled(all_deeds(min(len(skin[0]) + 1, 9)), seed)[:8]):
        row = deed_text(deed)
        for said in (row, "mark 0 a", f"mark {step} -", "undo", "redo", "skin", "marks", "deeds", "counts", "news",
                     f"patch {step}", f"knot {step}", f"rim {step}", "tell " + row, "back " + row, "alike 0 | -",
                     "alike " + skin_text(skin), "no such row"):
            told.append(outcome(desk.say, said))
    return tuple(told)


class TestSameAgain(unittest.TestCase):
    def test_kinds_and_what_was_handed_in(self):
        for seed, skin in enumerate(many_skins()):
            for function, *handed in questions(skin, seed):
                before = made_anew(handed)
                told = outcome(function, *handed)
                self.assertTrue(of_the_kinds_named(told), (function, handed, told))
                self.assertEqual(handed, before, function)
                self.assertTrue(of_the_kinds_named(tuple(handed)))

    def test_the_same_again_with_another_skin_asked_between(self):
        skins = many_skins()
        first = {}
        for seed, skin in enumerate(skins):
            first[seed] = [outcome(function, *handed) for function, *handed in questions(skin, seed)]
        for seed in shuffled(range(len(skins)), 1):
            other = (seed + 7) % len(skins)
            for at, (function, *handed) in enumerate(questions(skins[seed], seed)):
                again = outcome(function, *made_anew(handed))
                self.assertEqual(again, first[seed][at], (function, handed))
            # Asked by turns with questions of the same kinds about another one.
            pairs = zip(questions(skins[seed], seed)[::9], questions(skins[other], other)[4::9])
            for at, ((function, *handed), (another, *more)) in enumerate(pairs):
                outcome(another, *more)
                self.assertEqual(outcome(function, *handed), first[seed][9 * at], (function, handed))

    def test_what_was_told_does_not_change_behind_other_calls(self):
        tailor = Tailor(BALL)
        tailor.mark(0, "a")
        told = (tailor.skin(), tailor.marks(), tailor.deeds(), tailor.counts(), tailor.skin_behind(0))
        before = made_anew(told)
        for call in (lambda: tailor.do(("split", 0)), lambda: tailor.mark(1, "b"), tailor.undo, tailor.undo, tailor.undo,
                     tailor.redo, lambda: tailor.do(("rip", 3)), tailor.news):
            call()
            self.assertEqual(told, before)

    def test_lists_that_are_handed_in_stay_and_are_not_kept(self):
        for thing in ([], [0], [[0], [N]], ["split", 0], ["a"], [["a", [N, [1]]]], [list(BALL[0]), list(BALL[1])]):
            for function in (is_skin, is_deed):
                for one in (thing, (thing,), (thing, thing), ("split", thing), (tuple(thing), thing)):
                    before = made_anew(one)
                    self.assertIs(function(one), False)
                    self.assertEqual(one, before)
            desk, tailor = Desk("0 | -"), Tailor(ring(1))
            for call, wanted in (
                    (read_skin, "NoText"), (read_deed, "NoText"), (Desk, "NoText"), (desk.say, "NoRow"),
                    (lambda mark: tailor.mark(0, mark), "NoMarks"),
                    (lambda marks: carried(ring(1), marks, ("split", 0)), "NoMarks"),
                    (lambda mark: carried(ring(1), (mark,), ("split", 0)), "NoMarks")):
                before = made_anew(thing)
                self.assertEqual(outcome(call, thing), wanted)
                self.assertEqual(thing, before)
            self.assertEqual((tailor.marks(), tailor.deeds(), desk.say("deeds")), ((N,), (), "0"))


if __name__ == "__main__":
    unittest.main()
