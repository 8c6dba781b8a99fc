"""Points 34 and 35, and point 3 as far as it speaks of them: tailors."""

import unittest

from halfseams.counts import counts, totals
from halfseams.deeds import done
from halfseams.marks import carried
from halfseams.tailors import Tailor
from tests.by_words import all_deeds, behind, labels_behind, totals_of
from tests.checks import changes, made_as_told, outcome
from tests.samples import (
    BALL, BY_HAND, FAN, HANDLE, LONE, PILLOW, PURSE, TUBE, TWO_SINGLES, TWO_TRIANGLES, grid,
    large_skins, middle_skins, mixed_skin, ring, shuffled, side_by_side)
from tests.test_marks import NO_MARKS, REFUSED_DEEDS, named

N = None
NO_NEWS = (0,) * 6


def told_by(tailor):
    """All that a tailor tells, but for the news, which are told but once."""
    return (tailor.skin(), tailor.marks(), tailor.deeds(), tailor.counts(),
            tuple(tailor.skin_behind(many) for many in range(len(tailor.deeds()) + 1)))


def told_by_the_words(skin, deeds):
    """The same, worked out from the first skin and the deeds that stand."""
    marks = {half: N for half in range(len(skin[0]))}
    skins = [skin]
    for word, *rest in deeds:
        if word == "mark":
            marks[rest[0]] = rest[1]
            skins.append(skins[-1])
            continue
        many = len(marks)
        half = rest[0]
        mate = skins[-1][1][half]
        new = {many: half, many + 1: mate} if word == "split" else {}
        labels = [new.get(label, label) for label in labels_behind(skins[-1], (word, *rest))]
        marks = {at: marks.get(label) for at, label in enumerate(labels)}
        skins.append(behind(skins[-1], (word, *rest)))
    return skins[-1], tuple(marks[half] for half in sorted(marks)), tuple(deeds), counts(skins[-1]), tuple(skins)


class TestByHand(unittest.TestCase):
    def test_a_new_one(self):
        for told in BY_HAND:
            tailor = Tailor(told.skin)
            many = len(told.skin[0])
            self.assertEqual(told_by(tailor), (told.skin, (N,) * many, (), counts(told.skin), (told.skin,)))
            self.assertEqual(tailor.news(), NO_NEWS)

    def test_do(self):
        tailor = Tailor(TWO_TRIANGLES)
        self.assertIsNone(tailor.do(("join", 0)))
        self.assertEqual(tailor.skin(), ring(4))
        self.assertEqual(tailor.marks(), (N,) * 4)
        self.assertEqual(tailor.deeds(), (("join", 0),))
        self.assertEqual(tailor.counts(), ((4, 4, 1, 1, 0),))
        self.assertIsNone(tailor.do(("sew", 0, 2)))
        self.assertEqual(tailor.skin(), (ring(4)[0], (2, N, 0, N)))
        self.assertEqual(tailor.deeds(), (("join", 0), ("sew", 0, 2)))
        self.assertEqual(tailor.counts(), ((2, 3, 1, 2, 0),))

    def test_counts_of_several_parts(self):
        tailor = Tailor(side_by_side(LONE, TWO_SINGLES))
        self.assertEqual(tailor.counts(), ((1, 1, 1, 1, 0), (1, 1, 2, 0, 0)))
        tailor.do(("rip", 2))
        self.assertEqual(tailor.counts(), ((1, 1, 1, 1, 0),) * 3)

    def test_mark(self):
        tailor = Tailor(PURSE)
        self.assertIsNone(tailor.mark(1, "sea"))
        self.assertEqual(tailor.marks(), (N, "sea", N))
        tailor.mark(2, "abcdefgh")
        tailor.mark(0, "a")
        self.assertEqual(tailor.marks(), ("a", "sea", "abcdefgh"))
        tailor.mark(1, N)
        self.assertEqual(tailor.marks(), ("a", N, "abcdefgh"))
        tailor.mark(1, "z")
        tailor.mark(1, "z")
        tailor.mark(1, "y")
        self.assertEqual(tailor.marks(), ("a", "y", "abcdefgh"))
        self.assertEqual(tailor.deeds(), (
            ("mark", 1, "sea"), ("mark", 2, "abcdefgh"), ("mark", 0, "a"), ("mark", 1, N), ("mark", 1, "z"),
            ("mark", 1, "z"), ("mark", 1, "y")))
        self.assertEqual((tailor.skin(), tailor.counts(), tailor.news()), (PURSE, counts(PURSE), NO_NEWS))

    def test_marks_are_carried(self):
        tailor = Tailor(TWO_TRIANGLES)
        tailor.mark(0, "a")
        tailor.mark(4, "e")
        tailor.do(("split", 0))
        self.assertEqual(tailor.marks(), ("a", N, N, N, "e", N, "a", N))
        tailor.mark(3, "d")
        tailor.do(("split", 3))
        self.assertEqual(tailor.marks(), ("a", N, N, "d", "e", N, "a", N, "d", "a"))
        tailor.do(("puff", 0))
        self.assertEqual(tailor.marks(), ("a", N, N, "d", "e", N, "a", N, "d", "a", N, N))
        tailor.do(("fold", 10))
        tailor.do(("draw", 1))
        self.assertEqual(tailor.marks(), ("a", N, "d", "e", N, "a", N, "d", "a"))

    def test_marks_carried_over_each_deed(self):
        for skin, deed in (
                (BALL, ("split", 0)), (ring(3), ("merge", 2)), (BALL, ("join", 1)), (BALL, ("turn", 4)),
                (BALL, ("unturn", 4)), (((1, 0, 3, 2), (2, 3, 0, 1)), ("fold", 0)), (PURSE, ("puff", 1)),
                (BALL, ("draw", 7)), (FAN, ("grow", 3)), (FAN, ("cap", 1)), (BALL, ("open", 5)), (BALL, ("rip", 3)),
                (HANDLE, ("cut", 1, 3)), (HANDLE, ("part", 0, 2)), (TUBE, ("sew", 0, 2))):
            tailor = Tailor(skin)
            marks = named(len(skin[0]))
            for half, mark in enumerate(marks):
                tailor.mark(half, mark)
            tailor.do(deed)
            self.assertEqual((tailor.skin(), tailor.marks()), (done(skin, deed), carried(skin, marks, deed)), deed)
            tailor.undo()
            self.assertEqual((tailor.skin(), tailor.marks()), (skin, marks), deed)
            tailor.redo()
            self.assertEqual(tailor.marks(), carried(skin, marks, deed), deed)

    def test_undo_and_redo(self):
        tailor = Tailor(LONE)
        tailor.do(("split", 0))
        tailor.mark(1, "b")
        tailor.do(("cap", 0))
        stages = [told_by(tailor)]
        for word in ("cap", "mark", "split"):
            self.assertEqual(tailor.deeds()[-1][0], word)
            self.assertIsNone(tailor.undo())
            stages.append(told_by(tailor))
        self.assertEqual(stages[-1], (LONE, (N,), (), ((1, 1, 1, 1, 0),), (LONE,)))
        self.assertEqual(stages[1][:3], (ring(2), (N, "b"), (("split", 0), ("mark", 1, "b"))))
        self.assertEqual(outcome(tailor.undo), "NothingLeft")
        for stage in stages[-2::-1]:
            self.assertIsNone(tailor.redo())
            self.assertEqual(told_by(tailor), stage)
        self.assertEqual(outcome(tailor.redo), "NothingLeft")
        self.assertEqual(told_by(tailor), stages[0])

    def test_no_redo_behind_another_deed(self):
        for once_more in (lambda tailor: tailor.do(("grow", 0)), lambda tailor: tailor.mark(0, "a"),
                          lambda tailor: tailor.mark(0, N), lambda tailor: tailor.do(("puff", 0))):
            tailor = Tailor(LONE)
            tailor.do(("puff", 0))
            tailor.do(("puff", 0))
            tailor.undo()
            tailor.undo()
            once_more(tailor)
            self.assertEqual(outcome(tailor.redo), "NothingLeft")
            self.assertEqual(len(tailor.deeds()), 1)
            tailor.undo()
            tailor.redo()
            self.assertEqual(len(tailor.deeds()), 1)
            self.assertEqual(outcome(tailor.redo), "NothingLeft")

    def test_redo_still_behind_what_only_tells(self):
        tailor = Tailor(PURSE)
        tailor.do(("puff", 0))
        tailor.undo()
        told_by(tailor)
        tailor.news()
        outcome(tailor.skin_behind, 1)
        tailor.redo()
        self.assertEqual(tailor.deeds(), (("puff", 0),))

    def test_news(self):
        tailor = Tailor(HANDLE)
        self.assertEqual(tailor.news(), NO_NEWS)
        tailor.do(("split", 0))
        tailor.do(("cut", 0, 2))
        self.assertEqual(tailor.news(), (1, 2, 1, 0, 0, 0))
        self.assertEqual(tailor.news(), NO_NEWS)
        tailor.undo()
        self.assertEqual(tailor.news(), (0, -1, -1, 0, 0, 0))
        tailor.undo()
        tailor.redo()
        self.assertEqual(tailor.news(), NO_NEWS)
        tailor.undo()
        tailor.mark(0, "a")
        tailor.do(("rip", 0))
        # A seam and a knot less for the split, and what the ripping changes.
        self.assertEqual(tailor.news(), (0, 0, 0, 2, -1, 0))
        tailor.do(("rip", 1))
        tailor.undo()
        self.assertEqual(tailor.news(), NO_NEWS)
        self.assertEqual(outcome(tailor.do, ("rip", 0)), "rim")
        self.assertEqual(tailor.news(), NO_NEWS)

    def test_news_of_parts(self):
        tailor = Tailor(TWO_SINGLES)
        tailor.do(("rip", 0))
        self.assertEqual(tailor.news(), (1, 1, 0, 2, 0, 1))
        tailor.undo()
        self.assertEqual(tailor.news(), (-1, -1, 0, -2, 0, -1))

    def test_skin_behind(self):
        tailor = Tailor(TWO_TRIANGLES)
        self.assertEqual(tailor.skin_behind(0), TWO_TRIANGLES)
        self.assertEqual(outcome(tailor.skin_behind, 1), "TooMany")
        tailor.do(("join", 0))
        tailor.mark(0, "a")
        tailor.do(("draw", 0))
        self.assertEqual([tailor.skin_behind(many) for many in range(4)], [TWO_TRIANGLES, ring(4), ring(4), ring(3)])
        for many in (-1, -4, 4, 5, 999999999, -999999999):
            self.assertEqual(outcome(tailor.skin_behind, many), "TooMany")
        tailor.undo()
        self.assertEqual(outcome(tailor.skin_behind, 3), "TooMany")
        self.assertEqual([tailor.skin_behind(many) for many in range(3)], [TWO_TRIANGLES, ring(4), ring(4)])
        self.assertEqual(tailor.skin(), ring(4))


class TestRefusals(unittest.TestCase):
    def assert_refused(self, skin, call, wanted):
        """Refused, and nothing is changed, neither what stands nor what can be done again nor the news."""
        tailor = Tailor(skin)
        tailor.mark(0, "a")
        tailor.do(("rip", 0) if skin[1][0] is not None else ("puff", 0))
        tailor.undo()
        tailor.news()
        first = told_by(tailor)
        self.assertEqual(outcome(call, tailor), wanted)
        self.assertEqual(told_by(tailor), first)
        self.assertEqual(tailor.news(), NO_NEWS)
        tailor.redo()
        self.assertEqual(len(tailor.deeds()), 2)
        self.assertEqual(outcome(tailor.redo), "NothingLeft")

    def test_deeds(self):
        full = grid(10, 10, True)
        for skin, deed, wanted in (*REFUSED_DEEDS, (full, ("split", 0), "TooMany"), (full, ("cut", 0, 0), "TooMany")):
            self.assert_refused(skin, lambda tailor: tailor.do(deed), wanted)

    def test_marks(self):
        for thing in NO_MARKS:
            self.assert_refused(PURSE, lambda tailor: tailor.mark(1, thing), "NoMarks")
            self.assertEqual(outcome(Tailor(LONE).mark, 0, thing), "NoMarks")

    def test_no_half_goes_ahead_of_no_marks(self):
        for number in (-1, 3, 400, 999999999, -999999999):
            for thing in (N, "a", "abcdefgh", "", "A", 0, True, (), []):
                self.assert_refused(PURSE, lambda tailor: tailor.mark(number, thing), "NoHalf")

    def test_nothing_left(self):
        tailor = Tailor(BALL)
        first = told_by(tailor)
        for word in ("undo", "redo", "undo"):
            self.assertEqual(outcome(getattr(tailor, word)), "NothingLeft")
        self.assertEqual(told_by(tailor), first)

    def test_a_refused_one_stands_nowhere(self):
        tailor = Tailor(BALL)
        self.assertEqual(outcome(tailor.do, ("cap", 0)), "NoRim")
        self.assertEqual(outcome(tailor.mark, 0, "No"), "NoMarks")
        self.assertEqual(outcome(tailor.undo), "NothingLeft")


class TestMany(unittest.TestCase):
    def some_call(self, tailor, deeds, seed):
        """One of all calls, by the seed; most are deeds."""
        number = seed % 17
        if number < 4:
            return outcome(tailor.undo)
        if number < 7:
            return outcome(tailor.redo)
        if number < 10:
            half = seed % (len(tailor.marks()) + 1)
            return outcome(tailor.mark, half, (N, "a", "bc", "", "abcdefgh")[seed % 5])
        deed = deeds[seed % len(deeds)]
        return outcome(tailor.do, deed)

    def test_what_is_told_is_that_of_the_deeds_that_stand(self):
        for at, skin in enumerate([told.skin for told in BY_HAND] + middle_skins()[::12]):
            tailor = Tailor(skin)
            deeds = shuffled(all_deeds(min(len(skin[0]), 7)), at)
            last = totals(skin)
            for step, seed in enumerate(shuffled(range(1000), at)[:60]):
                self.some_call(tailor, deeds, seed)
                told = told_by(tailor)
                self.assertEqual(told, told_by_the_words(skin, tailor.deeds()), (skin, tailor.deeds()))
                if step % 3 == 0:
                    now = totals_of(tailor.skin())
                    self.assertEqual(tailor.news(), changes(last, now))
                    last = now
                self.assertEqual(told_by(tailor), told)

    def test_hundreds_of_calls_all_undone_done_again_and_undone(self):
        for at, skin in enumerate((LONE, BALL, PILLOW, FAN, grid(3, 3, False), mixed_skin(30, 10, 4))):
            tailor = Tailor(skin)
            many = len(skin[0])
            deeds = shuffled(all_deeds(min(many, 9)), at)
            stages = [(tailor.skin(), tailor.marks())]
            for seed in shuffled(range(4000), at)[:600]:
                if seed % 3 == 0:
                    tailor.mark(seed % len(tailor.marks()), ("a", "bc", N)[seed % 5 % 3])
                elif outcome(tailor.do, deeds[seed % len(deeds)]) is not None:
                    continue
                stages.append((tailor.skin(), tailor.marks()))
            self.assertGreater(len(stages), 250)
            stood = tailor.deeds()
            self.assertEqual(len(stood), len(stages) - 1)
            self.assertEqual(tailor.news(), changes(totals(skin), totals(tailor.skin())))
            for again in range(2):
                for left in range(len(stood), 0, -1):
                    self.assertEqual((tailor.skin(), tailor.marks()), stages[left])
                    tailor.undo()
                self.assertEqual((tailor.skin(), tailor.marks(), tailor.deeds()), (*stages[0], ()))
                self.assertEqual(outcome(tailor.undo), "NothingLeft")
                if again == 0:
                    for place in range(len(stood)):
                        tailor.redo()
                        self.assertEqual((tailor.skin(), tailor.marks()), stages[place + 1])
                        self.assertEqual(tailor.deeds(), stood[:place + 1])
                    self.assertEqual(outcome(tailor.redo), "NothingLeft")
                    self.assertEqual([tailor.skin_behind(place) for place in range(len(stages))],
                                     [stage[0] for stage in stages])
            self.assertEqual(tailor.news(), changes(totals(stages[-1][0]), totals(skin)))

    def test_two_tailors_by_turns(self):
        one, other = Tailor(PURSE), Tailor(PURSE)
        one.do(("puff", 0))
        self.assertEqual(told_by(other), told_by(Tailor(PURSE)))
        other.mark(0, "b")
        one.mark(0, "a")
        self.assertEqual((one.marks(), other.marks()), (("a", N, N, N, N), ("b", N, N)))
        one.undo()
        self.assertEqual(outcome(other.redo), "NothingLeft")
        self.assertEqual(one.news(), (0, 1, 1, 0, 0, 0))
        self.assertEqual(other.news(), NO_NEWS)
        other.undo()
        one.redo()
        self.assertEqual((one.deeds(), other.deeds()), ((("puff", 0), ("mark", 0, "a")), ()))

    def test_kinds(self):
        for skin in [told.skin for told in BY_HAND] + large_skins()[:4]:
            tailor = Tailor(skin)
            tailor.mark(0, "a")
            outcome(tailor.do, ("puff", 0))
            for told in (tailor.skin(), tailor.counts(), tailor.news(), tailor.skin_behind(1)):
                self.assertTrue(made_as_told(told))
            for told in (tailor.marks(), tailor.deeds()):
                self.assertIs(type(told), tuple)
            for deed in tailor.deeds():
                self.assertIs(type(deed), tuple)


if __name__ == "__main__":
    unittest.main()
