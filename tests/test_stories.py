"""Tests of fewfetches.stories: 16.7."""

import unittest

from fewfetches.datatext import data_text
from fewfetches.desk import Desk
from fewfetches.knowledge import Known
from fewfetches.stores import Store, Table
from fewfetches.stories import put_away, taken_up
from tests.desks import (ALL_R, ALL_S, BOTH, HALVES, LINE, NO_Q, STORE, WIDE_S, done, new_desk, r, reads, s, state,
                         stories, story_deed)
from tests.helpers import Odd, raised
from tests.makers import laid_line

SMALL = Store([Table("t", [laid_line("p-", "01")])])
SMALL_LINE = "[desk,[[t,[[[2],[[[[[[0],[2]]],[[[0],put]]]]]]]]],[[[[stretch,[0]]]]],3]"
# the parts of SMALL_LINE
PAGE = "[[[[0],[2]]],[[[0],put]]]"
PLACE, MARKS = "[[[0],[2]]]", "[[[0],put]]"
LAYER = "[[2],[[" + PAGE + "]]]"
TABLE = "[t,[" + LAYER + "]]"
STORE_LINE = data_text(("desk", STORE.told, (((("stretch", (0,)), ("lots", 2)),), ((("stretch", (0,)),),)), 2))
ALL_R_TOLD, WIDE_TOLD, NO_TOLD = data_text(ALL_R.told), data_text(WIDE_S.told), data_text(NO_Q.told)


class TestPutAway(unittest.TestCase):
    def test_a_new_desk(self):
        desk = Desk(SMALL, [[[("stretch", [0])]]], 3)
        self.assertEqual(put_away(desk), SMALL_LINE)
        self.assertEqual(put_away(new_desk()), STORE_LINE)
        desk = Desk(SMALL, [[[HALVES[:1] + (HALVES[1][:1],)]]], 3)
        self.assertEqual(put_away(desk), SMALL_LINE.replace("[stretch,[0]]", "[given,[[[[0],[2]]]]]"))

    def test_lines_in_order(self):
        desk = done(*reads(s(3)), ("ask", ALL_R), ("put", "r", (0,)), ("flush", "s", [HALVES]), ("at", 0), ("at", 2),
                    ("remove", "s", (3,)), ("forget", [r(1, 1)]), ("cut", BOTH, 1), ("at", 1), *reads(s(0)))
        self.assertEqual(put_away(desk).split("\n"), [
            STORE_LINE, "[put,r,[0]]", "[flush,s,[[given,[[[[0],[2]]],[[[2],[4]]]]]]]", "[remove,s,[3]]", "[at,1]",
            "[read,r,0,0,[0]]", "[read,r,0,0,[2]]", "[read,s,0,0,[0]]", "[read,s,0,0,[3]]", "[halt," + data_text(BOTH.told) + "]"])

    def test_what_does_not_stand(self):
        """No "at" if the newest version is looked at, no "halt" if nothing is halted, no refused or other deed."""
        desk = done(("put", "r", (0,)), ("at", 0), ("at", 1), ("ask", ALL_S), ("forget", [s(0), s(1), s(3)]),
                    ("cut", ALL_R, 1), ("resume",), ("forget", [r(0, 0)]))
        raised(desk.do_deed, ("put", "q", (0,)))
        raised(desk.do_deed, ("flush", "r", []))
        names = ["[read," + data_text(name)[1:] for name in desk.known.names]
        self.assertEqual(put_away(desk).split("\n"), [STORE_LINE, "[put,r,[0]]"] + names)


class TestTakenUp(unittest.TestCase):
    def check(self, desk):
        before = state(desk)
        text = put_away(desk)
        self.assertEqual(state(desk), before)
        other = taken_up(text)
        self.assertIsInstance(other, Desk)
        self.assertEqual(other, desk)
        self.assertEqual((other.versions, other.number, other.known, other.halted), before[:4])
        self.assertEqual(put_away(other), text)
        return other

    def test_by_hand(self):
        self.assertEqual(self.check(new_desk()).log, ())
        desk = done(*reads(s(3)), ("ask", ALL_R), ("put", "r", (0,)), ("flush", "s", [HALVES]), ("forget", [r(1, 1)]),
                    ("cut", BOTH, 1), ("at", 1), *reads(s(0)))
        other = self.check(desk)
        self.assertEqual([deed for deed, _ in other.log],
                         [("put", "r", (0,)), ("flush", "s", (HALVES,)), ("at", 1), ("read",) + r(0, 0), ("read",) + r(0, 2),
                          ("read",) + s(0), ("read",) + s(3)])
        self.assertEqual([told for _, told in other.log], [1, 2, 0, r(0, 0), r(0, 2), s(0), s(3)])
        self.assertEqual(other.do_deed(("resume",)), desk.do_deed(("resume",)))
        self.assertEqual(other, desk)

    def test_all_edits(self):
        self.check(done(("put", "r", (3,)), ("remove", "s", (0,)), ("flush", "r", [LINE, HALVES]), ("put", "r", (0,)),
                        ("relay", "r", 1, 0, HALVES), ("compact", "r", 0), ("relay", "s", 0, 0, ("grid", [3])), ("at", 4),
                        ("ask", BOTH)))

    def test_at_of_the_newest(self):
        desk = taken_up(SMALL_LINE + "\n[at,0]")
        self.assertEqual((desk.log, desk), (((("at", 0), 0),), taken_up(SMALL_LINE)))
        desk = taken_up(SMALL_LINE + "\n[put,t,[1]]\n[at,1]\n[read,t,0,0,[1]]")
        self.assertEqual(put_away(desk), SMALL_LINE + "\n[put,t,[1]]\n[read,t,0,0,[0]]")

    def test_halted_question_that_is_determined(self):
        desk = done(("cut", ALL_R, 1), ("ask", ALL_R))
        self.assertEqual(self.check(desk).halted, ALL_R)

    def test_random(self):
        for chance, desk, length in stories(241, 40):
            for _ in range(length):
                raised(desk.do_deed, story_deed(chance, desk))
            other = self.check(desk)
            deeds = [deed for deed in [story_deed(chance, desk) for _ in range(5)] if deed[0] != "paper"]
            self.assertEqual(other.trial_deeds(deeds), desk.trial_deeds(deeds))


class TestWrongTexts(unittest.TestCase):
    def refused(self, text, line):
        self.assertEqual(raised(taken_up, text), ("BadStory", line), text)

    def test_no_text(self):
        for thing in (None, 3, b"[desk]", [SMALL_LINE], (), Odd(), "", "\n", " "):
            self.refused(thing, 0)

    def spoilt(self, elder, newer):
        self.assertEqual(SMALL_LINE.count(elder), 1, elder)
        self.refused(SMALL_LINE.replace(elder, newer), 0)
        self.refused(SMALL_LINE.replace(elder, newer) + "\n[at]", 0)

    def test_line_0(self):
        for line in ("[resume]", "[put,t,[0]]", "[at,0]", "[halt," + ALL_R_TOLD + "]", "desk", "5", "[]", "[desk]",
                     "[desk,[],[]]", SMALL_LINE[:-3] + "]", SMALL_LINE[:-1] + ",1]", SMALL_LINE + " ", SMALL_LINE[:-1],
                     "[desks" + SMALL_LINE[5:], "[" + SMALL_LINE + "]", " " + SMALL_LINE, "\n" + SMALL_LINE,
                     "[3" + SMALL_LINE[5:], "[[desk]" + SMALL_LINE[5:], "[desk,5,5,5]", "[desk,a,b,c]"):
            self.refused(line, 0)

    def test_form_of_the_store(self):
        for thing in ("3", "t"):
            for part in (TABLE, LAYER, PAGE, PLACE, MARKS, "[" + TABLE + "]", "[" + LAYER + "]", "[[" + PAGE + "]]"):
                self.spoilt(part, thing)
            self.spoilt("[[0],[2]]", thing)
            self.spoilt(PLACE + "," + MARKS, "[" + thing + "]," + MARKS)
        for part in (TABLE, LAYER, PAGE, PLACE, MARKS):
            if part != MARKS:
                self.spoilt(part, "[]")
            self.spoilt(part, "[" + part + "]")
            self.spoilt(part, part[:-1] + ",3]")
        self.spoilt("[[0],[2]]", "[[0],[2],[3]]")
        self.spoilt("[[0],[2]]", "[[0]]")
        self.spoilt("[[0],[2]]", "[]")
        self.spoilt("[t,[[[2]", "[t,3,[[[2]")
        self.spoilt("[[2],[[[", "[[2],3,[[[")

    def test_what_the_classes_refuse(self):
        for elder, newer in (
                # Box, Page
                ("[[0],[2]]", "[[2],[0]]"), ("[[0],[2]]", "[[0],[65]]"), ("[[0],[2]]", "[0,2]"), ("[[0],[2]]", "[[a],[2]]"),
                ("[[0],[2]]", "[[0],[1,2]]"), ("[[[0],[2]]]", "[[[0],[2]],[[1],[2]]]"), ("[[[0],[2]]]", "[[[0],[1]],[[1,0],[2,1]]]"),
                ("[[[0],[2]]]", "[]"), ("[[[0],[2]]]", "[[[],[]]]"), (MARKS, "[[[0],put],[[0],gone]]"), (MARKS, "[[[2],put]]"),
                (MARKS, "[[[0],took]]"), (MARKS, "[[0,put]]"), (MARKS, "[[[0],put,put]]"), (MARKS, "put"),
                # Layer, Table, Store
                ("[[2],[[", "[[3],[["), ("[[2],[[", "[[1],[["), ("[[2],[[", "[[65],[["), ("[[2],[[", "[2,[["), ("[[2],[[", "[[],[["),
                ("[[" + PAGE + "]]", "[[]]"), ("[[" + PAGE + "]]", "[]"), ("[[" + PAGE + "]]", "[[" + PAGE + "," + PAGE + "]]"),
                ("[[" + PAGE + "]]", "[[" + PAGE + "],[[[[[0],[2]]],[]]]]"), ("[" + LAYER + "]", "[]"),
                ("[" + LAYER + "]", "[" + ",".join([LAYER] * 4) + "]"), ("[t,", "[[t],"), ("[t,", "[3,"),
                ("[" + TABLE + "]", "[]"), ("[" + TABLE + "]", "[" + TABLE + "," + TABLE + "]"),
                # Desk
                ("],3]", "],0]"), ("],3]", "],4097]"), ("],3]", "],[]]"), ("],3]", "],a]"), ("[stretch,[0]]", "[stretch,[1]]"),
                ("[stretch,[0]]", "3"), ("[stretch,[0]]", "[lots,1],[lots,1]"), ("[[[[stretch,[0]]]]]", "[]"),
                ("[[[[stretch,[0]]]]]", "3"), ("[[[[stretch,[0]]]]]", "[3]"), ("[[[[stretch,[0]]]]]", "[[3]]"),
                ("[[[[stretch,[0]]]]]", "[[[3]]]"), ("[[[[stretch,[0]]]]]", "[[[[stretch,[0]]]],[]]"),
                ("[stretch,[0]]", "[given,[[[[0],[1]]]]]"), ("[stretch,[0]]", "[given,[[[0]]]]"),
                ("[stretch,[0]]", "[given,[[[[1],[0]]]]]"), ("[stretch,[0]]", "[given,3]"), ("[stretch,[0]]", "[given,[3]]")):
            self.spoilt(elder, newer)

    def test_other_tellings_of_the_same_store(self):
        """A place that is cut otherwise, and kinds with Boxes, are taken."""
        self.assertEqual(taken_up(SMALL_LINE.replace(PLACE, "[[[1],[2]],[[0],[1]]]")), taken_up(SMALL_LINE))
        desk = taken_up(SMALL_LINE.replace("[stretch,[0]]", "[given,[[[[0],[1]]],[[[1],[2]]]]]"))
        self.assertEqual(desk.versions[0].kinds[0][0][0][0], "given")
        self.assertEqual(desk.versions[0].store, SMALL)

    def test_later_lines(self):
        for line in ("", "5", "[]", "[put,t]", "[put,t,[0]", "[undo]", "[ask," + ALL_R_TOLD + "]", "[resume]", "[forget,[]]",
                     "[cut," + ALL_R_TOLD + ",1]", "[by,[none]," + ALL_R_TOLD + "]", "[share,[" + ALL_R_TOLD + "]]",
                     "[partial," + ALL_R_TOLD + ",[]]", "[paper," + ALL_R_TOLD + "]", STORE_LINE, "[halt]", "[halt,3]",
                     "[halt," + ALL_R_TOLD + ",3]", "[halt,[]]", "[halt," + ALL_R_TOLD.replace("all", "none") + "]",
                     "[halt," + WIDE_TOLD + "]", "[halt," + NO_TOLD + "]", "[put,r,[4]]", "[put,q,[0]]", "[remove,r,3]",
                     "[flush,r,[]]", "[flush,r,[[given,[[3]]]]]", "[compact,r,0]", "[relay,r,0,2,[lots,1]]",
                     "[relay,r,0,0,[given,[[[[1],[0]]]]]]", "[at,1]", "[at,-1]", "[at,a]", "[read,r,0,2,[0]]", "[read,q,0,0,[0]]",
                     "[read,r,0,0,[4]]", "[read,r,0,0,0]", "[at,0] ", "[halts," + ALL_R_TOLD + "]"):
            self.refused(STORE_LINE + "\n" + line, 1)
            self.refused(STORE_LINE + "\n" + line + "\n[at]", 1)
            self.refused(STORE_LINE + "\n[put,r,[0]]\n[remove,s,[1]]\n[at,2]\n[read,r,0,0,[0]]\n" + line, 5)
        self.refused(STORE_LINE + "\n", 1)
        self.refused(STORE_LINE + "\n[at,0]\n", 2)
        self.refused(STORE_LINE + "\n[read,r,0,0,[0]]\n[read,r,0,0,[1]]", 2)
        self.refused(STORE_LINE + "\n[flush,r,[[lots,1]]]\n[flush,r,[[lots,1]]]\n[flush,r,[[lots,1]]]", 3)

    def test_order(self):
        lines = ["[put,r,[0]]", "[at,0]", "[read,s,0,0,[0]]", "[halt," + ALL_R_TOLD + "]"]
        self.assertEqual(taken_up("\n".join([STORE_LINE] + lines)).number, 0)
        for first in range(4):
            for second in range(4):
                if second < first or second == first in (1, 3):
                    # the edit alone may stand twice; the page that is read a second time is another one
                    pair = [lines[first], lines[second]]
                    head = [] if 0 in (first, second) else [lines[0]]
                    self.refused("\n".join([STORE_LINE] + head + pair), len(head) + 2)
        self.refused("\n".join([STORE_LINE, lines[0], "[at,1]", "[remove,r,[0]]"]), 3)
        self.refused("\n".join([STORE_LINE, "[at,0]", "[at,0]"]), 2)
        self.refused("\n".join([STORE_LINE, lines[3], lines[3]]), 2)
        self.assertIsNone(raised(taken_up, "\n".join([STORE_LINE, lines[0], lines[0]])))
        self.assertIsNone(raised(taken_up, "\n".join([STORE_LINE, lines[2], "[read,s,0,0,[1]]"])))
        # reads of the version that is looked at
        text = "\n".join([STORE_LINE, "[flush,s,[[lots,1]]]", "[at,0]", "[read,s,1,0,[0]]"])
        self.refused(text, 3)
        self.assertEqual(taken_up(text.replace("[at,0]\n", "")).known.names, (("s", 1, 0, (0,)),))

    def test_each_line_turned(self):
        desk = done(*reads(s(3)), ("put", "r", (0,)), ("flush", "s", [HALVES]), ("cut", BOTH, 1), ("at", 1), *reads(s(0)))
        lines = put_away(desk).split("\n")
        for at in range(len(lines)):
            for newer in ("", lines[at][1:], lines[at] + lines[at], "[" + lines[at] + "]", lines[at] + ","):
                self.refused("\n".join(lines[:at] + [newer] + lines[at + 1:]), at)
        self.refused("\n".join(lines[1:]), 0)
        self.assertEqual(taken_up("\n".join(lines)), desk)
        self.assertEqual(taken_up("\n".join(lines[:1])).known, Known(STORE.shape))


if __name__ == "__main__":
    unittest.main()
