"""Tests of fewfetches.deeds: 16.6."""

import unittest

from fewfetches.boxes import Box
from fewfetches.deeds import print_deeds, read_deeds
from fewfetches.questions import Question
from tests.helpers import Odd, only_tuples, raised, seeded, unchanged
from tests.makers import random_question

ROW = ("row", "t", (("var", 0),))
QUESTION = Question((("t", (4,)),), (4,), ROW, ("first", 2, (-1,), (0,)))
TOLD = "[[[t,[4]]],[4],[row,t,[[var,0]]],[first,2,[-1],[0]]]"
OTHER = Question((("s", (2, 3)), ("t", (4,))), (), ("and", ()), ("count",))
OTHER_TOLD = "[[[s,[2,3]],[t,[4]]],[],[and,[]],[count]]"
GIVEN = ("given", ((Box((0,), (2,)), Box((3,), (4,))), (Box((2,), (3,)),)))
GIVEN_TOLD = "[given,[[[[0],[2]],[[3],[4]]],[[[2],[3]]]]]"

# each deed with its line
LINES = [
    (("put", "t", (3,)), "[put,t,[3]]"),
    (("remove", "t", (0, 2)), "[remove,t,[0,2]]"),
    (("flush", "t", (("stretch", (0,)), ("lots", 3))), "[flush,t,[[stretch,[0]],[lots,3]]]"),
    (("flush", "t", (GIVEN, ("grid", (2,)))), "[flush,t,[" + GIVEN_TOLD + ",[grid,[2]]]]"),
    (("flush", "t", ()), "[flush,t,[]]"),
    (("compact", "t", 0), "[compact,t,0]"),
    (("relay", "t", 1, 0, ("split", (1, 0))), "[relay,t,1,0,[split,[1,0]]]"),
    (("relay", "t", 1, 0, GIVEN), "[relay,t,1,0," + GIVEN_TOLD + "]"),
    (("at", 12), "[at,12]"),
    (("read", "t", 0, 2, (1,)), "[read,t,0,2,[1]]"),
    (("forget", ()), "[forget,[]]"),
    (("forget", (("t", 0, 2, (1,)), ("s", 1, 0, (0, 0)))), "[forget,[[t,0,2,[1]],[s,1,0,[0,0]]]]"),
    (("ask", QUESTION), "[ask," + TOLD + "]"),
    (("cut", QUESTION, 0), "[cut," + TOLD + ",0]"),
    (("cut", OTHER, 4096), "[cut," + OTHER_TOLD + ",4096]"),
    (("resume",), "[resume]"),
    (("by", ("choices", (3, -1)), QUESTION), "[by,[choices,[3,-1]]," + TOLD + "]"),
    (("by", ("rounds",), OTHER), "[by,[rounds]," + OTHER_TOLD + "]"),
    (("share", (QUESTION,)), "[share,[" + TOLD + "]]"),
    (("share", (QUESTION, OTHER, QUESTION)), "[share,[" + TOLD + "," + OTHER_TOLD + "," + TOLD + "]]"),
    (("partial", QUESTION, (("t", 0, 1),)), "[partial," + TOLD + ",[[t,0,1]]]"),
    (("partial", QUESTION, ()), "[partial," + TOLD + ",[]]"),
    (("paper", OTHER), "[paper," + OTHER_TOLD + "]"),
    # what a desk would refuse stands all the same
    (("put", 3, 7), "[put,3,7]"),
    (("put", ("t",), ()), "[put,[t],[]]"),
    (("at", -5), "[at,-5]"),
    (("at", "late"), "[at,late]"),
    (("read", 1, 2, 3, 4), "[read,1,2,3,4]"),
    (("forget", ((1, 2, 3, 4), ((), "a", (), ()))), "[forget,[[1,2,3,4],[[],a,[],[]]]]"),
    (("flush", "t", 5), "[flush,t,5]"),
    (("flush", "t", "given"), "[flush,t,given]"),
    (("flush", "t", (5, "given", (), ("given",), ("given", 3), ("given", "a"), ("given", ()), ("given", (3, "a", ())))),
     "[flush,t,[5,given,[],[given],[given,3],[given,a],[given,[]],[given,[3,a,[]]]]]"),
    (("flush", "t", (("given", ((), ()), 3), ("took", ((3,),)))), "[flush,t,[[given,[[],[]],3],[took,[[3]]]]]"),
    (("relay", "t", "a", (), ("given", ((Box((), ()),),))), "[relay,t,a,[],[given,[[[[],[]]]]]]"),
    (("relay", "t", 1, 0, 7), "[relay,t,1,0,7]"),
    (("relay", "t", 1, 0, ("given", 7)), "[relay,t,1,0,[given,7]]"),
    (("relay", "t", 1, 0, ("given", (7,))), "[relay,t,1,0,[given,[7]]]"),
    (("relay", "t", 1, 0, ("given", (((0,), (4,)), 3), 1)), "[relay,t,1,0,[given,[[[0],[4]],3],1]]"),
    (("by", 3, OTHER), "[by,3," + OTHER_TOLD + "]"),
    (("by", ("given", ((((0,), (4,)),),)), OTHER), "[by,[given,[[[[0],[4]]]]]," + OTHER_TOLD + "]"),
    (("compact", ("given", ((((0,), (4,)),),)), 0), "[compact,[given,[[[[0],[4]]]]],0]"),
    (("put", "t", ("given", ((((0,), (4,)),),))), "[put,t,[given,[[[[0],[4]]]]]]"),
    (("partial", OTHER, 3), "[partial," + OTHER_TOLD + ",3]"),
]

# lines that can not stand anywhere
WRONG = [
    "", " ", "[", "[]", "5", "put", "[resume] ", " [resume]", "[resume,]", "[resume][resume]", "[5]", "[[resume]]",
    "[resume,1]", "[RESUME]", "[undo]", "[answer]", "[put]", "[put,t]", "[put,t,[3],4]", "[remove,t]", "[flush,t]",
    "[flush,t,[],[]]", "[compact,t]", "[compact,t,0,1]", "[relay,t,0,0]", "[relay,t,0,0,[lots,1],1]", "[at]", "[at,1,2]",
    "[read,t,0,0]", "[read,t,0,0,[1],2]", "[forget]", "[forget,3]", "[forget,t]", "[forget,[3]]", "[forget,[[t,0,0]]]",
    "[forget,[[t,0,0,[1]],[t,0,0,[1],1]]]", "[forget,[[t,0,0,[1]],t]]", "[forget,[],[]]", "[ask]", "[ask,3]", "[ask,t]",
    "[ask,[]]", "[ask," + TOLD + ",3]", "[ask,[" + TOLD + "]]", "[ask," + TOLD.replace("[4],[row", "[5],[row") + "]",
    "[ask," + TOLD.replace("var,0", "var,1") + "]", "[ask," + TOLD.replace("first,2", "first,-2") + "]",
    "[ask," + TOLD.replace("first", "last") + "]", "[cut," + TOLD + "]", "[cut," + TOLD + ",-1]", "[cut," + TOLD + ",4097]",
    "[cut," + TOLD + ",[]]", "[cut," + TOLD + ",many]", "[cut,0," + TOLD + "]", "[by," + TOLD + "]",
    "[by," + TOLD + ",[none]]", "[by,[none],[none]]", "[by,[none],3]", "[share]", "[share,[]]", "[share,3]", "[share,t]",
    "[share," + TOLD + "]", "[share,[3]]", "[share,[" + TOLD + ",t]]", "[share,[" + TOLD + "],[]]", "[partial," + TOLD + "]",
    "[partial,[]," + TOLD + "]", "[partial,3,[]]", "[paper]", "[paper,[]]", "[paper," + TOLD + ",[]]", "[halt," + TOLD + "]",
    "[desk,[],[],1]", "[log]", "[at,01]", "[at,1]\r", "[at, 1]", "[put,t,[3]", "[at,1]]",
    "[relay,t,0,0,[given,[[3]]]]", "[relay,t,0,0,[given,[[[]]]]]", "[relay,t,0,0,[given,[[[[0]]]]]]",
    "[relay,t,0,0,[given,[[[[0],[4],[5]]]]]]", "[relay,t,0,0,[given,[[[[4],[0]]]]]]", "[relay,t,0,0,[given,[[[[0],[0]]]]]]",
    "[relay,t,0,0,[given,[[[[0],[4]]],[[[1],[65]]]]]]", "[relay,t,0,0,[given,[[[[0],[1,2]]]]]]",
    "[relay,t,0,0,[given,[[a]]]]", "[flush,t,[[given,[[3]]]]]", "[flush,t,[[lots,1],[given,[[[[2],[1]]]]]]]",
    "[flush,t,[[given,[[[[0],[4]],[[0],3]]]]]]",
]


class TestPrint(unittest.TestCase):
    def test_lines(self):
        for deed, line in LINES:
            self.assertEqual(unchanged(self, print_deeds, [deed]), line)
        deeds = tuple(deed for deed, _ in LINES)
        self.assertEqual(print_deeds(deeds), "\n".join(line for _, line in LINES))

    def test_none(self):
        self.assertEqual((print_deeds(()), print_deeds([])), ("", ""))

    def test_lists(self):
        self.assertEqual(print_deeds([["put", "t", [3]], ["share", [QUESTION]], ["relay", "t", 1, 0, ["given", [[Box([0], [4])]]]]]),
                         "[put,t,[3]]\n[share,[" + TOLD + "]]\n[relay,t,1,0,[given,[[[[0],[4]]]]]]")


class TestRead(unittest.TestCase):
    def check(self, text, deeds):
        told = read_deeds(text)
        self.assertEqual(told, deeds)
        self.assertTrue(only_tuples(told))
        self.assertIsInstance(told, tuple)
        self.assertEqual(print_deeds(told), text)

    def test_lines(self):
        for deed, line in LINES:
            self.check(line, (deed,))
        self.check("\n".join(line for _, line in LINES), tuple(deed for deed, _ in LINES))

    def test_none(self):
        self.assertEqual(read_deeds(""), ())

    def test_wrong_lines(self):
        for line in WRONG:
            if line != "":
                self.assertEqual(raised(read_deeds, line), ("BadStory", 0), line)
            self.assertEqual(raised(read_deeds, "[resume]\n" + line), ("BadStory", 1), line)
            self.assertEqual(raised(read_deeds, "[at,1]\n[resume]\n" + line + "\n[at]\n"), ("BadStory", 2), line)
        self.assertEqual(raised(read_deeds, "\n"), ("BadStory", 0))
        self.assertEqual(raised(read_deeds, "[resume]\n"), ("BadStory", 1))
        self.assertEqual(raised(read_deeds, "[resume]\n\n[resume]"), ("BadStory", 1))

    def test_no_string(self):
        for thing in (None, 3, b"[resume]", ["[resume]"], (), Odd()):
            self.assertEqual(raised(read_deeds, thing), ("BadStory", 0))

    def test_each_sign_left_out(self):
        """A text spoilt at one place is refused or is the text of what is read."""
        for deed, line in LINES[:23]:
            for at in range(len(line)):
                spoilt = line[:at] + line[at + 1:]
                if raised(read_deeds, spoilt) is None:
                    self.assertEqual(print_deeds(read_deeds(spoilt)), spoilt)
                else:
                    self.assertEqual(raised(read_deeds, spoilt), ("BadStory", 0))

    def test_random_questions(self):
        chance = seeded(221)
        for _ in range(100):
            questions = tuple(random_question(chance) for _ in range(chance.choice([1, 2, 3])))
            deeds = (("share", questions), ("ask", questions[0]), ("cut", questions[-1], chance.randrange(9)))
            self.assertEqual(read_deeds(print_deeds(deeds)), deeds)


if __name__ == "__main__":
    unittest.main()
