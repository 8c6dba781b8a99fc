"""Point 38: the desk."""

import re
import unittest

from halfseams.counts import totals
from halfseams.desk import Desk
from halfseams.tailors import Tailor
from halfseams.texts import deed_text, skin_text
from halfseams.walks import round_knot
from tests.by_words import WORDS_OF_ONE, WORDS_OF_TWO, Cloth, all_deeds, behind
from tests.checks import changes, outcome
from tests.samples import (
    BALL, BY_HAND, FAN, HANDLE, LONE, PATCH_OF_MATES, PURSE, TUBE, TWO_SINGLES, grid, large_skins, middle_skins,
    one_of_each, renumbered, ring, shuffled, side_by_side)
from tests.test_texts import NO_TEXTS, SIGNS

N = None
TRIANGLES_TEXT = "0 1 2; 3 4 5 | 0-3"
NO_NEWS = "0 0 0 0 0 0"

# What is a row, written another way than in the program.
NUMBER = "(?:0|[1-9][0-9]{0,8})"
DEED = f"(?:(?:{'|'.join(WORDS_OF_ONE)}) {NUMBER}|(?:{'|'.join(WORDS_OF_TWO)}) {NUMBER} {NUMBER})"
ROW = re.compile(f"{DEED}|mark {NUMBER} (?:[a-z]{{1,8}}|-)|undo|redo|skin|marks|deeds|counts|news"
                 f"|(?:patch|knot|rim) {NUMBER}|(?:tell|back) {DEED}|alike (?s:.*)")

BARE = ("undo", "redo", "skin", "marks", "deeds", "counts", "news")
ROWS = BARE + (
    "split 0", "merge 1", "join 0", "turn 0", "unturn 3", "fold 0", "puff 5", "draw 1", "grow 2", "cap 1", "open 4",
    "rip 0", "cut 0 1", "part 0 4", "sew 1 5", "mark 0 a", "mark 5 abcdefgh", "mark 1 -", "patch 3", "knot 0", "rim 2",
    "tell split 0", "tell cut 0 1", "back join 3", "back sew 1 2", "patch 999999999", "mark 12 sea")


def told_at(desk):
    """All that a desk tells of its tailor, but for the news."""
    return tuple(desk.say(row) for row in ("skin", "marks", "deeds", "counts"))


def numbers(row):
    return " ".join(str(number) for number in row)


class Rows(unittest.TestCase):
    def assert_said(self, desk, *cases):
        """Of each case, in turn, a row and its answer, or the word of Harm, or a refusal's name."""
        for row, wanted in cases:
            self.assertEqual(outcome(desk.say, row), wanted, row)

    def assert_refused(self, text, wanted, *rows):
        """Each row is refused, and changes nothing: neither what stands, nor the news, nor what can be done again."""
        for row in rows:
            desk = Desk(text)
            desk.say("mark 0 a")
            desk.say("puff 0")
            desk.say("undo")
            first = told_at(desk)
            self.assertEqual(outcome(desk.say, row), wanted, repr(row))
            self.assertEqual(told_at(desk), first, repr(row))
            self.assert_said(desk, ("news", NO_NEWS), ("redo", "ok"), ("deeds", "2"), ("redo", "NothingLeft"))


class TestByHand(Rows):
    def test_what_is_told_at_first(self):
        desk = Desk(TRIANGLES_TEXT)
        self.assert_said(
            desk, ("skin", TRIANGLES_TEXT), ("marks", "- - - - - -"), ("deeds", "0"), ("counts", "4 5 2 1 0"),
            ("news", NO_NEWS), ("undo", "NothingLeft"), ("redo", "NothingLeft"))
        self.assert_said(Desk("0 | -"), ("skin", "0 | -"), ("marks", "-"), ("deeds", "0"), ("counts", "1 1 1 1 0"))

    def test_deeds(self):
        desk = Desk(TRIANGLES_TEXT)
        self.assert_said(
            desk, ("join 0", "ok"), ("skin", "0 1 2 3 | -"), ("deeds", "1"), ("counts", "4 4 1 1 0"),
            ("news", "0 -1 -1 0 0 0"), ("news", NO_NEWS), ("cut 0 2", "ok"), ("skin", "0 1 4; 2 3 5 | 4-5"),
            ("deeds", "2"), ("news", "0 1 1 0 0 0"), ("undo", "ok"), ("skin", "0 1 2 3 | -"), ("undo", "ok"),
            ("skin", TRIANGLES_TEXT), ("undo", "NothingLeft"), ("news", NO_NEWS), ("redo", "ok"), ("redo", "ok"),
            ("redo", "NothingLeft"), ("skin", "0 1 4; 2 3 5 | 4-5"), ("deeds", "2"))

    def test_each_deed(self):
        for text, row, wanted in (
                ("0 | -", "split 0", "0 1 | -"), ("0 1 | -", "merge 0", "0 | -"),
                (TRIANGLES_TEXT, "join 3", "0 1 2 3 | -"), (TRIANGLES_TEXT, "turn 0", "0 2 4; 1 3 5 | 0-3"),
                # (0, a, b) and (3, c, d) of which (0, 1, 2) and (3, 4, 5) come.
                (TRIANGLES_TEXT, "unturn 0", "0 5 1; 2 4 3 | 0-3"), ("0 1; 2 3 | 0-2 1-3", "fold 0", "0 1 | 0-1"),
                ("0 | -", "puff 0", "0; 1 2 | 0-1"), ("0 1 2 | -", "draw 1", "0 1 | -"),
                ("0 | -", "grow 0", "0 1 | -"), ("0 1 | -", "cap 0", "0 1; 2 3 | 0-2 1-3"),
                ("0; 1 | 0-1", "open 0", "0 | -"), ("0; 1 | 0-1", "rip 1", "0; 1 | -"),
                ("0 | -", "cut 0 0", "0 2; 1 | 1-2"), ("0 | -", "part 0 0", "0 1 2 | 1-2"),
                ("0; 1 | -", "sew 1 0", "0; 1 | 0-1")):
            desk = Desk(text)
            self.assert_said(desk, (row, "ok"), ("skin", wanted), ("deeds", "1"), ("undo", "ok"), ("skin", text))

    def test_marks(self):
        desk = Desk("0 1 2 | 0-1")
        self.assert_said(
            desk, ("mark 1 sea", "ok"), ("marks", "- sea -"), ("mark 2 abcdefgh", "ok"), ("mark 0 z", "ok"),
            ("marks", "z sea abcdefgh"), ("mark 1 -", "ok"), ("marks", "z - abcdefgh"), ("deeds", "4"),
            ("news", NO_NEWS), ("split 2", "ok"), ("marks", "z - abcdefgh abcdefgh"), ("undo", "ok"), ("undo", "ok"),
            ("marks", "z sea abcdefgh"), ("redo", "ok"), ("marks", "z - abcdefgh"), ("mark 2 -", "ok"),
            ("redo", "NothingLeft"), ("marks", "z - -"), ("deeds", "5"))

    def test_marks_that_are_words_of_rows(self):
        desk = Desk("0 1 2 | 0-1")
        self.assert_said(desk, ("mark 0 mark", "ok"), ("mark 1 undo", "ok"), ("mark 2 none", "ok"),
                         ("marks", "mark undo none"))

    def test_counts_of_several_parts(self):
        desk = Desk("0; 1; 2 | 1-2")
        self.assert_said(
            desk, ("counts", "1 1 1 1 0; 1 1 2 0 0"), ("rip 1", "ok"), ("counts", "1 1 1 1 0; 1 1 1 1 0; 1 1 1 1 0"),
            ("news", "1 1 0 2 0 1"), ("undo", "ok"), ("news", "-1 -1 0 -2 0 -1"))

    def test_news_with_numbers_below_nought(self):
        desk = Desk("0 1 2 3 | 0-2 1-3")
        self.assert_said(
            desk, ("rip 0", "ok"), ("news", "1 1 0 2 -1 0"), ("sew 0 2", "ok"), ("news", "-1 -1 0 -2 1 0"),
            ("undo", "ok"), ("undo", "ok"), ("news", NO_NEWS))

    def test_walks(self):
        desk = Desk(TRIANGLES_TEXT)
        self.assert_said(
            desk, ("patch 0", "0 1 2"), ("patch 4", "4 5 3"), ("knot 0", "4 0"), ("knot 4", "4 0"), ("knot 3", "1 3"),
            ("knot 5", "5"), ("rim 1", "1 2 4 5"), ("rim 5", "5 1 2 4"), ("rim 0", "NoRim"), ("rim 3", "NoRim"),
            ("patch 6", "NoHalf"), ("knot 6", "NoHalf"), ("rim 6", "NoHalf"), ("patch 999999999", "NoHalf"),
            ("deeds", "0"))
        self.assert_said(Desk("0 | -"), ("patch 0", "0"), ("knot 0", "0"), ("rim 0", "0"), ("patch 1", "NoHalf"))
        self.assert_said(Desk(skin_text(BALL)), ("knot 8", "8 9 1"), ("knot 0", "0 3 6"), ("patch 11", "11 9 10"))

    def test_tell_and_back(self):
        desk = Desk(TRIANGLES_TEXT)
        self.assert_said(
            desk, ("tell join 0", "0 -1 -1 0 0 0"), ("tell split 0", "1 1 0 0 0 0"), ("tell turn 3", NO_NEWS),
            ("tell cap 1", "0 0 1 -1 0 0"), ("tell sew 1 2", "-1 -1 0 0 0 0"), ("tell sew 1 4", "-2 -1 0 1 0 0"),
            ("tell rip 0", "2 1 0 1 0 1"),
            ("back join 0", "cut 0 2"), ("back split 5", "merge 5"), ("back turn 0", "unturn 0"),
            ("back cap 2", "open 6"), ("back sew 1 4", "rip 1"), ("back rip 3", "sew 3 0"), ("back draw 1", "grow 1"),
            ("tell join 1", "rim"), ("back join 1", "rim"), ("tell draw 0", "rims"), ("back fold 0", "two"),
            ("tell sew 0 1", "NoRim"), ("back cut 0 3", "Unlike"), ("tell split 6", "NoHalf"),
            ("back part 0 999999999", "NoHalf"), ("skin", TRIANGLES_TEXT), ("deeds", "0"), ("news", NO_NEWS))
        self.assert_said(Desk(skin_text(ring(400))), ("tell split 0", "TooMany"), ("back cap 0", "TooMany"))

    def test_alike(self):
        desk = Desk(TRIANGLES_TEXT)
        self.assert_said(
            desk, ("alike " + TRIANGLES_TEXT, "yes"), ("alike 0 1 2; 3 4 5 | 2-4", "yes"),
            ("alike 0 2 4; 1 3 5 | 4-5", "yes"), ("alike 0 5 1; 2 4 3 | 0-3", "yes"), ("alike 0 | -", "no"),
            ("alike 0 1 2; 3 4 5 | -", "no"), ("alike 0 1 2; 3 4 5 | 0-1", "no"), ("alike 0 1 2 3 | -", "no"),
            ("deeds", "0"), ("join 0", "ok"), ("alike 0 1 2 3 | -", "yes"), ("alike 0 3 1 2 | -", "yes"),
            ("alike " + TRIANGLES_TEXT, "no"), ("undo", "ok"), ("alike " + TRIANGLES_TEXT, "yes"))

    def test_a_text_that_writes_no_skin(self):
        for text in ("", " ", "0", "0 |", "0 | - ", " 0 | -", "0 | -\n", "1 | -", "0; 1 | 1-0", "1 0 | -", "00 | -", "skin",
                     "alike 0 | -", "split 0", "0 0 | -", "0 1 | 0-0", skin_text(ring(401))):
            self.assertEqual(outcome(Desk, text), "NoText", repr(text))
        for thing in NO_TEXTS:
            self.assertEqual(outcome(Desk, thing), "NoText", repr(thing))


class TestRefusals(Rows):
    def test_blanks_and_signs_beside(self):
        for row in ROWS:
            self.assertIsNotNone(ROW.fullmatch(row))
            wrong = [" " + row, row + " ", "  " + row, "\n" + row, row + "\n", row + "\t", row + ";", row + ".", row + "-"]
            wrong += [row.replace(" ", sign) for sign in ("  ", "\t", "\n", "", "_", ", ") if " " in row]
            wrong += [row[:at] + " " + row[at:] for at, sign in enumerate(row) if sign == " "]
            wrong += [row.upper(), row.title(), '"' + row + '"', row + "\n" + row, row + "; " + row, "do " + row]
            for one in wrong:
                self.assertIsNone(ROW.fullmatch(one), one)
            self.assert_refused(TRIANGLES_TEXT, "NoRow", *wrong)

    def test_one_word_too_few_or_too_many(self):
        for row in ROWS:
            words = row.split(" ")
            self.assert_refused(TRIANGLES_TEXT, "NoRow", " ".join(words[:-1]))
            # What is left of a row that tells of a deed is a row, too.
            if words[0] not in ("tell", "back"):
                self.assert_refused(TRIANGLES_TEXT, "NoRow", " ".join(words[1:]))
            for more in ("0", "1", "a", "-", row, words[0]):
                self.assert_refused(TRIANGLES_TEXT, "NoRow", row + " " + more)
        self.assert_refused(TRIANGLES_TEXT, "NoRow", *[row + " 0" for row in BARE], "", " ", "0", "alike", "tell", "back",
                            "mark", "patch", "knot", "rim", "tell ", "back ", "mark ", "patch ", "knot ", "rim ")

    def test_other_words(self):
        self.assert_refused(
            TRIANGLES_TEXT, "NoRow", "skins", "mark 0 a b", "patches", "knots", "rims", "seams", "totals", "parts", "patch a",
            "tell", "tell undo", "tell mark 0 a", "back undo", "back mark 0 -", "tell skin", "tell tell split 0",
            "back back split 0", "tell alike 0 | -", "deed", "deeds 0", "skin_behind 0", "merged 0", "shrink 0", "do", "quit",
            "help", TRIANGLES_TEXT, "0 | -", "alikes 0 | -", "alik 0 | -", "Alike 0 | -", " alike 0 | -", "alike\n0 | -",
            "alike\t0 | -", "alike0 | -", "unalike 0 | -", "undo undo", "undo; undo", "redo\nredo", "no", "yes", "ok")

    def test_half(self):
        for wrong in ("00", "01", "007", "1000000000", "1234567890", "0000000000", "-1", "-0", "+1", "1.0", "1_0", "a", "x",
                      "\u0661", "\u00b2", "\uff11", "None", "1" * 5000):
            rows = [f"{word} {wrong}" for word in ("patch", "knot", "rim", "split", "tell merge", "back puff")]
            rows += [f"{word} {wrong} 0" for word in ("cut", "tell sew", "back part")]
            rows += [f"{word} 0 {wrong}" for word in ("cut", "tell sew", "back part")]
            rows += [f"mark {wrong} a", f"mark {wrong} -"]
            self.assert_refused(TRIANGLES_TEXT, "NoRow", *rows)

    def test_mark(self):
        for wrong in ("abcdefghi", "A", "aB", "Sea", "a1", "0", "1", "--", "a-", "-a", "- ", " -", "a b", "", " ", "_", "~", "`",
                      "{", "a.", "\u00e4", "a\n", "None"):
            self.assert_refused(TRIANGLES_TEXT, "NoRow", f"mark 0 {wrong}", f"mark 9 {wrong}")

    def test_what_is_no_text(self):
        things = NO_TEXTS + (("undo",), ["undo"], ("skin",), ["skin"], ["mark", 0, "a"], ("cut", 0, 1), b"skin", b"undo")
        self.assert_refused(TRIANGLES_TEXT, "NoRow", *things)

    def test_a_skin_not_so_written(self):
        for wrong in ("", " ", "  ", "0", "- | 0", " 0 | -", "0 | - ", "0 |  -", "0  | -", "0 | -\n", "\n", "1 0 | -", "0; 1 | 1-0",
                      "00 | -", "0 1 | 0-0", "skin", "alike 0 | -", "split 0", "a b c", "0 | - 0 | -", "0 | -; 1 | -",
                      " " + TRIANGLES_TEXT, TRIANGLES_TEXT + " ", skin_text(ring(401)), "-", "|", "; ", "~" * 9000):
            self.assert_refused(TRIANGLES_TEXT, "NoText", "alike " + wrong)

    def test_as_the_functions_refuse(self):
        for wanted, *rows in (
                ("NoHalf", "split 6", "cut 0 6", "cut 6 0", "mark 6 a", "mark 6 -", "patch 6", "knot 6", "rim 6",
                 "tell split 6", "back split 6", "sew 999999999 0", "mark 999999999 abcdefgh"),
                ("NoRim", "rim 0", "rim 3", "cap 0", "sew 0 1", "tell cap 3", "back cap 3"),
                ("Unlike", "cut 0 3", "part 0 1", "sew 1 1", "tell cut 0 3", "back part 0 1"),
                ("rim", "join 1", "turn 2", "unturn 4", "open 0", "rip 1", "tell rip 5", "back open 3"),
                ("two", "fold 0"), ("knot", "merge 0", "merge 5"), ("rims", "draw 0", "draw 3")):
            self.assert_refused(TRIANGLES_TEXT, wanted, *rows)
        self.assert_refused(skin_text(PATCH_OF_MATES), "one", "join 0", "turn 0")
        self.assert_refused(skin_text(PATCH_OF_MATES), "last", "fold 0", "draw 1")
        self.assert_refused(skin_text(TWO_SINGLES), "last", "join 1")
        self.assert_refused(skin_text(TWO_SINGLES), "three", "turn 1")
        self.assert_refused(skin_text(LONE), "loop", "draw 0")
        self.assert_refused(skin_text(HANDLE), "inner", "grow 1")
        self.assert_refused(skin_text(ring(398)), "NoText", "alike 0")
        full = Desk(skin_text(ring(400)))
        for row in ("split 0", "grow 3", "cut 0 0", "part 0 0", "puff 9", "cap 0", "tell cap 0", "back split 1"):
            self.assertEqual(outcome(full.say, row), "TooMany")

    def test_no_row_goes_ahead(self):
        # Each of these would be refused otherwise, too.
        desk = Desk("0 | -")
        self.assert_said(
            desk, ("undo 0", "NoRow"), ("undo", "NothingLeft"), ("redo ", "NoRow"), ("redo", "NothingLeft"),
            ("mark 9 A", "NoRow"), ("mark 9 a", "NoHalf"), ("split 09", "NoRow"), ("split 9", "NoHalf"),
            ("tell cut 9", "NoRow"), ("tell cut 9 9", "NoHalf"), ("back draw 0 ", "NoRow"), ("back draw 0", "loop"),
            ("alike", "NoRow"), ("alike ", "NoText"), ("alike 1 | -", "NoText"), ("alike\n", "NoRow"))

    def test_each_sign_otherwise(self):
        for row in ROWS + ("alike 0 | -",):
            others = {row[:at] + row[at + 1:] for at in range(len(row))}
            others |= {row[:at] + sign + row[at:] for at in range(len(row) + 1) for sign in SIGNS}
            others |= {row[:at] + sign + row[at + 1:] for at in range(len(row)) for sign in SIGNS}
            for other in sorted(others):
                told = outcome(Desk(TRIANGLES_TEXT).say, other)
                self.assertEqual(told == "NoRow", ROW.fullmatch(other) is None, repr(other))
                self.assertIs(type(told), str)


class TestMany(Rows):
    def expected(self, tailor, row):
        """The answer to a row that asks for something, from what a tailor and another telling of the skin say."""
        skin = tailor.skin()
        cloth = Cloth(skin)
        word, *rest = row
        if word == "skin":
            return skin_text(skin)
        if word == "marks":
            return " ".join(mark or "-" for mark in tailor.marks())
        if word == "deeds":
            return str(len(tailor.deeds()))
        if word == "counts":
            return "; ".join(numbers(part) for part in cloth.counts())
        if rest[0] not in range(len(skin[0])):
            return "NoHalf"
        if word == "patch":
            return numbers(cloth.patch(rest[0]))
        if word == "knot":
            return numbers(round_knot(skin, rest[0]))
        if skin[1][rest[0]] is not None:
            return "NoRim"
        return numbers(cloth.rim(rest[0]))

    def asked(self, tailor, seed):
        """Some rows that ask for something."""
        half = seed % (len(tailor.marks()) + 1)
        return [("skin",), ("marks",), ("deeds",), ("counts",), ("patch", half), ("knot", half), ("rim", half)]

    def test_as_a_tailor_that_is_told_the_same(self):
        for at, skin in enumerate([told.skin for told in BY_HAND] + middle_skins()[::14]):
            desk, tailor = Desk(skin_text(skin)), Tailor(skin)
            deeds = shuffled(all_deeds(min(len(skin[0]) + 1, 7)), at)
            last = totals(skin)
            for seed in shuffled(range(1000), at)[:50]:
                row, wanted = self.one_row(tailor, deeds, seed)
                self.assertEqual(outcome(desk.say, row), "ok" if wanted is None else wanted, (skin, row))
                for asked in self.asked(tailor, seed):
                    self.assertEqual(outcome(desk.say, " ".join(map(str, asked))), self.expected(tailor, asked))
                if seed % 3 == 0:
                    now = totals(tailor.skin())
                    self.assertEqual(desk.say("news"), numbers(changes(last, now)))
                    last = now

    def one_row(self, tailor, deeds, seed):
        """A row by which something is done, and what the tailor says to the same."""
        if seed % 7 == 0:
            return "undo", outcome(tailor.undo)
        if seed % 7 == 1:
            return "redo", outcome(tailor.redo)
        if seed % 7 == 2:
            half, mark = seed % (len(tailor.marks()) + 1), (N, "a", "abcdefgh")[seed % 3]
            return f"mark {half} {mark or '-'}", outcome(tailor.mark, half, mark)
        deed = deeds[seed % len(deeds)]
        return " ".join(map(str, deed)), outcome(tailor.do, deed)

    def test_tell_and_back_of_many(self):
        for at, skin in enumerate([told.skin for told in BY_HAND] + list(one_of_each(4))[::5] + middle_skins()[::20]):
            desk, cloth = Desk(skin_text(skin)), Cloth(skin)
            for deed in shuffled(all_deeds(len(skin[0]) + 1), at)[:60]:
                row = " ".join(map(str, deed))
                refusal = cloth.refused(*deed)
                if refusal is not None:
                    self.assert_said(desk, ("tell " + row, refusal), ("back " + row, refusal), (row, refusal))
                    continue
                then = behind(skin, deed)
                self.assertEqual(desk.say("tell " + row), numbers(changes(cloth.totals(), Cloth(then).totals())))
                back = desk.say("back " + row)
                self.assert_said(desk, (row, "ok"), ("skin", skin_text(then)), (back, "ok"),
                                 ("alike " + skin_text(skin), "yes"), ("undo", "ok"), ("undo", "ok"),
                                 ("skin", skin_text(skin)))

    def test_alike_with_other_numbers(self):
        for seed, skin in enumerate([told.skin for told in BY_HAND] + middle_skins()[::9] + large_skins()[:3]):
            desk = Desk(skin_text(skin))
            self.assertEqual(desk.say("alike " + skin_text(renumbered(skin, seed)[0])), "yes")
            self.assertEqual(desk.say("alike " + skin_text(side_by_side(LONE, TWO_SINGLES, TUBE))), "no")

    def test_two_desks_by_turns(self):
        one, other = Desk(TRIANGLES_TEXT), Desk(TRIANGLES_TEXT)
        self.assert_said(one, ("join 0", "ok"), ("mark 0 a", "ok"))
        self.assert_said(other, ("skin", TRIANGLES_TEXT), ("deeds", "0"), ("news", NO_NEWS), ("undo", "NothingLeft"),
                         ("mark 5 b", "ok"), ("split 1", "ok"))
        self.assert_said(one, ("skin", "0 1 2 3 | -"), ("marks", "a - - -"), ("deeds", "2"), ("undo", "ok"))
        self.assert_said(other, ("redo", "NothingLeft"), ("marks", "- - - - - b -"), ("news", "1 1 0 0 0 0"))
        self.assert_said(one, ("news", "0 -1 -1 0 0 0"), ("redo", "ok"), ("marks", "a - - -"))

    def test_hundreds_of_rows_undone(self):
        for text in ("0 | -", skin_text(FAN), skin_text(PURSE), skin_text(grid(2, 3, True))):
            desk = Desk(text)
            stages = [told_at(desk)]
            for seed in shuffled(range(3000), 5)[:400]:
                half = seed % 5
                row = (f"puff {half}", f"mark {half} a", f"cut {half} {half}", f"split {half}", f"fold {half}")[seed % 5]
                if outcome(desk.say, row) == "ok":
                    stages.append(told_at(desk))
            self.assertGreater(len(stages), 150)
            for stage in stages[-2::-1]:
                self.assertEqual(desk.say("undo"), "ok")
                self.assertEqual(told_at(desk), stage)
            self.assert_said(desk, ("undo", "NothingLeft"), ("skin", text), ("news", NO_NEWS))

    def test_deed_texts_are_rows(self):
        for deed in all_deeds(3):
            self.assertNotEqual(outcome(Desk("0 1 2; 3 4 5 | 0-3").say, deed_text(deed)), "NoRow")


if __name__ == "__main__":
    unittest.main()
