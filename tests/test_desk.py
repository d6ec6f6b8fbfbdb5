"""Tests of fewfetches.desk: 16.1 to 16.5."""

import copy
import unittest

from fewfetches.boxes import Box
from fewfetches.desk import Desk, Trial
from fewfetches.engine import run_engine
from fewfetches.errors import FetchError
from fewfetches.judge import judge_paper
from fewfetches.kinds import is_right, plain_answer
from fewfetches.knowledge import Known
from fewfetches.papers import Paper
from fewfetches.policies import policy_of, run_policy
from fewfetches.relevant import determined
from fewfetches.rounds import most_pages
from fewfetches.shared import Shared
from fewfetches.statuses import read_partial
from fewfetches.versions import first_version, standing
from tests.desks import (ALL_R, ALL_S, BOTH, HALVES, KINDS, LINE, NO_Q, R, S, STORE, UNLIKE, WIDE_R, WIDE_S, done,
                         made, new_desk, r, reads, s, state, stories, story_deed)
from tests.helpers import Odd, no_integers, no_sequences, only_tuples, raised
from tests.makers import name_of, promised, settling_sets, with_names


class TestBeginning(unittest.TestCase):
    def test_attributes(self):
        desk = new_desk()
        self.assertEqual(state(desk), ((first_version(STORE, KINDS, 2),), 0, Known(STORE.shape), None, ()))
        self.assertEqual((len(desk), list(desk)), (0, []))

    def test_errors(self):
        for kinds in ([], [[[LINE, LINE]]], [[[LINE]], [[LINE]]], [[[LINE, ("lots", 0)]], [[LINE]]], None, 3):
            self.assertEqual(raised(Desk, STORE, kinds, 0), ("BadKinds",))
        for room in (0, -1, 4097, None, True):
            self.assertEqual(raised(Desk, STORE, KINDS, room), ("BadIndex", "room"))


class TestEdits(unittest.TestCase):
    def test_put(self):
        desk = done(*reads(r(0, 0), r(0, 2), r(1, 1), s(3)))
        elder = desk.versions[0]
        self.assertEqual(desk.do_deed(("put", "r", [0])), 1)
        self.assertEqual(desk.versions, (elder, elder.put_row("r", (0,))))
        self.assertEqual((desk.number, desk.versions[1].store.rows_of("r")), (1, ((0,), (1,), (2,))))
        self.assertEqual(desk.known.names, (r(0, 2), r(1, 1), s(3)))
        self.assertEqual(desk.log[-1], (("put", "r", (0,)), 1))
        self.assertIs(desk.versions[1].before, desk.versions[0])

    def test_remove(self):
        desk = done(*reads(r(0, 0), r(1, 0)))
        self.assertEqual(desk.do_deed(["remove", "r", (1,)]), 1)
        self.assertEqual(desk.versions[1], first_version(STORE, KINDS, 2).remove_row("r", (1,)))
        self.assertEqual(desk.known.names, (r(1, 0),))
        # the version is new also if no mark changes
        self.assertEqual(desk.do_deed(["remove", "r", (1,)]), 2)
        self.assertEqual((len(desk.versions), desk.known.names), (3, (r(1, 0),)))

    def test_flush_compact_and_relay(self):
        desk = done(*reads(r(0, 0), r(1, 1), s(0)))
        version = desk.versions[0]
        self.assertEqual(desk.do_deed(("flush", "r", [LINE, HALVES])), 1)
        version = version.flush("r", [LINE, HALVES])
        self.assertEqual((desk.versions[-1], desk.known.names), (version, (r(0, 0, 1), r(1, 1, 1), s(0))))
        self.assertEqual(desk.log[-1], (("flush", "r", (LINE, HALVES)), 1))
        self.assertEqual(desk.do_deed(("put", "r", (0,))), 2)
        self.assertEqual(desk.do_deed(("read",) + r(0, 0)), r(0, 0))
        self.assertEqual(desk.do_deed(("relay", "r", 1, 0, ("lots", 1))), 3)
        version = version.put_row("r", (0,)).relay("r", 1, 0, ("lots", 1))
        self.assertEqual((desk.versions[-1], desk.known.names), (version, (r(0, 0), r(1, 1, 1), s(0))))
        self.assertEqual(desk.do_deed(("compact", "r", 0)), 4)
        self.assertEqual(desk.versions[-1], version.compact("r", 0))
        self.assertEqual(desk.known.names, (r(1, 1), s(0)))
        self.assertEqual(desk.versions[-1].store.rows_of("r"), ((0,), (1,), (2,)))

    def test_elder_versions_stay(self):
        desk = new_desk()
        before = copy.deepcopy(desk.versions[0])
        for deed in (("put", "r", (0,)), ("flush", "s", [LINE]), ("remove", "s", (3,)), ("compact", "s", 0)):
            desk.do_deed(deed)
        self.assertEqual(desk.versions[0], before)
        self.assertEqual([version.number for version in desk.versions], [0, 1, 2, 3, 4])


class TestAt(unittest.TestCase):
    def test_back_and_on(self):
        desk = done(*reads(r(0, 0), r(0, 2), s(3)), ("put", "r", (0,)), *reads(r(1, 0), r(1, 1)))
        self.assertEqual(desk.known.names, (r(0, 2), r(1, 0), r(1, 1), s(3)))
        # r(1, 0) was changed by the edit
        self.assertEqual(desk.do_deed(("at", 0)), 3)
        self.assertEqual((desk.number, desk.known.names), (0, (r(0, 2), r(1, 1), s(3))))
        self.assertEqual(desk.known, Known(STORE.shape, [entry for entry in STORE.each_entry()
                                                        if name_of(entry) in desk.known.names]))
        desk.do_deed(("read",) + r(0, 0))
        self.assertEqual(desk.do_deed(("at", 1)), 3)
        self.assertEqual((desk.number, desk.known.names), (1, (r(0, 2), r(1, 1), s(3))))
        self.assertEqual([told for deed, told in desk.log if deed[0] == "at"], [3, 3])

    def test_looked_at_already(self):
        desk = done(*reads(r(0, 0), s(3)), ("put", "s", (1,)))
        for number in (1, 0, 0):
            self.assertEqual(desk.do_deed(("at", number)), 2)
            self.assertEqual((desk.number, desk.known.names), (number, (r(0, 0), s(3))))

    def test_layers_are_led(self):
        desk = done(*reads(r(0, 0), s(3)), ("flush", "r", [LINE]), ("flush", "r", [LINE]))
        self.assertEqual(desk.known.names, (r(0, 0, 2), s(3)))
        desk.do_deed(("read",) + r(0, 0, 1))
        desk.do_deed(("read",) + r(1, 1, 2))
        self.assertEqual(desk.do_deed(("at", 0)), 3)
        self.assertEqual(desk.known.names, (r(0, 0), r(1, 1), s(3)))
        self.assertEqual(desk.do_deed(("at", 1)), 3)
        self.assertEqual(desk.known.names, (r(0, 0, 1), r(1, 1, 1), s(3)))
        self.assertEqual(desk.do_deed(("at", 2)), 3)
        self.assertEqual(desk.known.names, (r(0, 0, 2), r(1, 1, 2), s(3)))

    def test_a_page_that_is_the_same_again(self):
        desk = done(("remove", "r", (1,)), ("put", "r", (1,)))
        self.assertEqual(desk.do_deed(("read",) + r(0, 0)), r(0, 0))
        self.assertEqual(desk.do_deed(("at", 0)), 1)
        self.assertEqual(desk.known.names, (r(0, 0),))
        self.assertEqual(desk.do_deed(("at", 2)), 1)
        self.assertEqual(desk.do_deed(("at", 1)), 0)
        self.assertEqual(desk.do_deed(("at", 2)), 0)

    def test_elder_version_is_read(self):
        desk = done(("put", "r", (0,)), ("at", 0))
        self.assertEqual(desk.do_deed(("ask", ALL_R))[0], ((1,), (2,)))
        desk.do_deed(("at", 1))
        self.assertEqual(desk.do_deed(("ask", ALL_R))[0], ((0,), (1,), (2,)))


class TestReadAndForget(unittest.TestCase):
    def test_read(self):
        desk = new_desk()
        self.assertEqual(desk.do_deed(("read", "r", 0, 1, (3,))), r(1, 1))
        self.assertEqual(desk.do_deed(["read", "s", 0, 0, [2]]), s(1))
        self.assertEqual(desk.known, with_names(STORE, Known(STORE.shape), [r(1, 1), s(1)]))
        self.assertEqual(desk.log, ((("read", "r", 0, 1, (3,)), r(1, 1)), (("read", "s", 0, 0, (2,)), s(1))))

    def test_forget(self):
        desk = done(*reads(r(0, 0), r(0, 2), r(1, 0), s(1), s(3)))
        self.assertEqual(desk.do_deed(("forget", [r(0, 3), s(3)])), 2)
        self.assertEqual(desk.known.names, (r(0, 0), r(1, 0), s(1)))
        self.assertEqual(desk.do_deed(("forget", (["s", 0, 0, [1]], s(2), s(1)))), 1)
        self.assertEqual(desk.known.names, (r(0, 0), r(1, 0)))
        self.assertEqual(desk.do_deed(("forget", ())), 0)
        self.assertEqual(desk.log[-2], (("forget", (s(1), s(2), s(1))), 1))


class TestAsking(unittest.TestCase):
    def test_ask(self):
        desk = new_desk()
        self.assertEqual(desk.do_deed(("ask", ALL_R)), (((1,), (2,)), 2, 4))
        self.assertEqual(desk.known.names, (r(0, 0), r(0, 2), r(1, 0), r(1, 1)))
        self.assertEqual(desk.do_deed(("ask", ALL_R)), (((1,), (2,)), 0, 0))
        self.assertEqual(desk.do_deed(("ask", made(S, ("first", 1, (1,), ())))), (((3,),), 1, 1))
        self.assertEqual(desk.known.many, 5)
        self.assertEqual(desk.log[-1], (("ask", made(S, ("first", 1, (1,), ()))), (((3,),), 1, 1)))
        self.assertIsNone(desk.halted)

    def test_cut_and_resume(self):
        desk = new_desk()
        self.assertEqual(desk.do_deed(("cut", ALL_R, 1)), (None, 1))
        self.assertEqual((desk.known.names, desk.halted), ((r(0, 0),), ALL_R))
        # a new engine begins with another point, for the row of the first one is known by now
        self.assertEqual(desk.do_deed(("resume",)), (((1,), (2,)), 1, 2))
        self.assertEqual((desk.known.names, desk.halted), ((r(0, 0), r(0, 2), r(1, 0)), None))
        self.assertEqual(raised(desk.do_deed, ("resume",)), ("NothingCut",))

    def test_cut_that_comes_to_an_end(self):
        self.assertEqual(done(("cut", ALL_R, 4)).log[-1][1], ((((1,), (2,)),), 4))
        self.assertEqual(done(("cut", ALL_R, 4096)).log[-1][1], ((((1,), (2,)),), 4))
        desk = done(("cut", ALL_R, 4096))
        self.assertEqual((desk.halted, desk.known.many), (None, 4))
        # three pages determine the answer, though the engine still waits for one
        desk = done(("cut", ALL_R, 3))
        self.assertEqual((desk.log[-1][1], desk.halted, desk.known.many), (((((1,), (2,)),), 3), None, 3))

    def test_cut_with_no_pages(self):
        desk = done(("cut", ALL_R, 0))
        self.assertEqual((desk.log[-1][1], desk.halted, desk.known.many), ((None, 0), ALL_R, 0))
        desk = done(("ask", ALL_R), ("cut", ALL_R, 0))
        self.assertEqual((desk.log[-1][1], desk.halted), (((((1,), (2,)),), 0), None))

    def test_a_cut_that_ends_takes_the_halted_question_away(self):
        desk = done(("cut", ALL_R, 1), ("cut", ALL_S, 99))
        self.assertIsNone(desk.halted)
        desk = done(("cut", ALL_R, 1), ("cut", ALL_S, 1))
        self.assertEqual(desk.halted, ALL_S)

    def test_no_other_deed_changes_the_halted_question(self):
        desk = done(("cut", ALL_R, 1))
        for deed in (("ask", ALL_R), ("put", "r", (3,)), ("at", 0), ("read",) + s(0), ("forget", [s(0)]),
                     ("by", ("whole",), BOTH), ("share", [ALL_S]), ("partial", BOTH, ()), ("paper", ALL_R), ("at", 1)):
            desk.do_deed(deed)
            self.assertEqual(desk.halted, ALL_R)
        self.assertEqual(desk.do_deed(("resume",)), (((1,), (2,), (3,)), 1, 2))

    def test_by(self):
        desk = new_desk()
        self.assertEqual(desk.do_deed(("by", ["gap"], ALL_R)), (((1,), (2,)), 2))
        self.assertEqual(desk.known.names, (r(0, 0), r(0, 2)))
        self.assertEqual(desk.log[-1][0], ("by", ("gap",), ALL_R))
        desk = done(*reads(r(0, 0)))
        self.assertEqual(desk.do_deed(("by", ("none",), ALL_R)), (((1,),), 0))
        self.assertEqual(desk.do_deed(("by", ["choices", [-2, 90]], made(S, ("any",)))), ((3,), 2))
        self.assertEqual(desk.known.many, 3)

    def test_policies_of_deeds_are_new_each_time(self):
        desk = new_desk()
        for _ in range(2):
            self.assertEqual(desk.do_deed(("by", ("rounds",), ALL_R)), (((1,), (2,)), 4))
            desk.do_deed(("forget", desk.known.names))

    def test_share(self):
        desk = new_desk()
        self.assertEqual(desk.do_deed(("share", [ALL_S, ALL_S, made(R, ("any",))])),
                         ((((0,), (3,)), ((0,), (3,)), (1,)), 3, 5))
        self.assertEqual(desk.known.names, (r(0, 0), r(1, 0), s(0), s(1), s(3)))
        self.assertEqual(desk.log[-1][0], ("share", (ALL_S, ALL_S, made(R, ("any",)))))

    def test_partial(self):
        desk = new_desk()
        self.assertEqual(desk.do_deed(("partial", BOTH, [["s", 0, 0], ("s", 0, 0)])), ((), ((0,), (3,)), ((1,), (2,))))
        self.assertEqual(desk.known.names, (r(0, 0), r(0, 2), r(1, 0), r(1, 1)))
        self.assertEqual(desk.log[-1][0], ("partial", BOTH, (("s", 0, 0), ("s", 0, 0))))
        self.assertEqual(desk.do_deed(("partial", UNLIKE, (("s", 0, 0),))), ((), (), ((0,), (1,), (2,), (3,))))

    def test_paper(self):
        desk = done(("ask", BOTH))
        told = desk.do_deed(("paper", BOTH))
        self.assertIsInstance(told, Paper)
        self.assertIsNone(judge_paper(BOTH, told, desk.known))
        self.assertEqual((told.answer, desk.log[-1]), ((), (("paper", BOTH), told)))


class TestKeeping(unittest.TestCase):
    def test_known_is_not_changed_by_later_deeds(self):
        desk = new_desk()
        deeds = reads(r(0, 0)) + [("ask", ALL_R), ("forget", [r(0, 0)]), ("cut", ALL_S, 1), ("resume",), ("at", 0),
                                  ("by", ("whole",), BOTH), ("forget", [s(0), r(1, 0)]), ("partial", BOTH, ()),
                                  ("forget", [s(3)]), ("share", [ALL_S, ALL_R]), ("put", "s", (1,)), ("at", 0)]
        for deed in deeds:
            held, before = desk.known, desk.known.twin()
            desk.do_deed(deed)
            self.assertEqual(held, before)

    def test_deeds_that_are_passed_are_not_kept(self):
        row, questions = [0], [ALL_S]
        deed, other = ["put", "r", row], ["share", questions]
        desk = done(deed, other)
        row[0], deed[0] = 3, "remove"
        questions.append(ALL_R)
        self.assertEqual(desk.log[0], (("put", "r", (0,)), 1))
        self.assertEqual(desk.log[1][0], ("share", (ALL_S,)))
        self.assertTrue(only_tuples(tuple(part for couple in desk.log for part in couple[0])))

    def test_iteration_and_length(self):
        desk = done(*reads(r(0, 0), s(3)))
        self.assertEqual((len(desk), list(desk), tuple(desk)), (2, list(desk.log), desk.log))
        raised(desk.do_deed, ("put",))
        self.assertEqual(len(desk), 2)

    def test_equal(self):
        one = done(*reads(r(0, 0), s(3)))
        self.assertTrue(one == done(*reads(s(3), r(0, 0))))
        self.assertTrue(one == done(*reads(s(3), r(0, 0), s(1)), ("forget", [s(1)])))
        others = [done(*reads(r(0, 0))), done(*reads(r(0, 0), s(3)), ("put", "r", (0,))), None, one.log, new_desk(),
                  done(*reads(r(0, 0), s(3)), ("cut", ALL_R, 0)), Desk(STORE, KINDS, 3)]
        for other in others:
            self.assertFalse(one == other)
        self.assertTrue(done(("cut", ALL_R, 0)) == done(("cut", ALL_R, 0)))
        self.assertFalse(done(("cut", ALL_R, 0)) == done(("cut", ALL_S, 0)))
        same = [("remove", "r", (0,)), ("remove", "r", (0,))]
        self.assertFalse(done(*same, ("at", 0)) == done(*same, ("at", 1)))
        self.assertFalse(done(same[0]) == new_desk())
        # unlike in their versions alone
        self.assertFalse(new_desk() == Desk(STORE, KINDS, 3))
        self.assertFalse(done(same[0], ("at", 0)) == new_desk())


class TestRefusals(unittest.TestCase):
    def refused(self, desk, deed, error):
        before, held = state(desk), desk.known
        self.assertEqual(raised(desk.do_deed, deed), error, deed)
        self.assertEqual(state(desk), before)
        self.assertIs(desk.known, held)

    def test_bad_deed(self):
        desk = done(("put", "r", (0,)), ("at", 0))
        deeds = no_sequences() + [
            (), ("",), ("undo",), (None,), (("put",),), (["put"],), [["resume"]], ({},), ("put", "r"), ("put", "r", (0,), 1), ("remove",), ("flush", "r"),
            ("compact", "r"), ("relay", "r", 0, 0), ("at",), ("at", 0, 0), ("read", "r", 0, 0), ("read", r(0, 0)),
            ("forget",), ("forget", [], []), ("ask",), ("ask", ALL_R, 1), ("cut", ALL_R), ("resume", ALL_R), ("resume", None),
            ("by", ("gap",)), ("by", ALL_R), ("share",), ("share", ALL_R), ("share", ()), ("share", []), ("partial", ALL_R),
            ("paper",), ("paper", ALL_R, ()), ("PUT", "r", (0,)), ("halt", ALL_R), ("desk", (), (), 1), [Odd()],
            ("share", [ALL_R, None]), ("share", [None, ALL_R]), ("share", (ALL_R.told,)), ("by", ALL_R, ("gap",)),
            ("partial", (), ALL_R), ("forget", [r(0, 0), ("r", 0, 0)]), ("forget", [r(0, 0) + (1,)]), ("forget", ["abcd"])]
        for thing in no_sequences() + [ALL_R.told, (ALL_R,)]:
            deeds += [("ask", thing), ("cut", thing, 1), ("by", ("gap",), thing), ("partial", thing, ()), ("paper", thing),
                      ("share", [thing])]
        for thing in no_sequences():
            deeds += [("share", thing), ("forget", thing), ("forget", [thing])]
        for thing in no_integers() + [-1, 4097, 10 ** 9]:
            deeds += [("cut", ALL_R, thing), ("cut", NO_Q, thing)]
        for deed in deeds:
            self.refused(desk, deed, ("BadDeed",))

    def test_not_newest(self):
        desk = done(("put", "r", (0,)), ("at", 0))
        for deed in (("put", "q", (9,)), ("remove", "r", 7), ("flush", "q", 3), ("compact", "r", 9), ("relay", 1, 2, 3, 4),
                     ("put", "r", (1,))):
            self.refused(desk, deed, ("NotNewest",))
        desk.do_deed(("at", 1))
        self.assertEqual(desk.do_deed(("put", "r", (1,))), 2)

    def test_nothing_cut(self):
        self.refused(new_desk(), ("resume",), ("NothingCut",))
        self.refused(done(("put", "r", (0,)), ("at", 0)), ("resume",), ("NothingCut",))

    def test_bad_policy(self):
        desk = new_desk()
        for policy in no_sequences() + [(), ("nothing",), ("gap", 1), ("choices", (True,)), ("choices",)]:
            for question in (ALL_R, NO_Q):
                self.refused(desk, ("by", policy, question), ("BadPolicy",))

    def test_unfit(self):
        desk = new_desk()
        for question, name in ((NO_Q, "q"), (WIDE_R, "r"), (WIDE_S, "s")):
            for deed in (("ask", question), ("cut", question, 0), ("by", ["gap"], question), ("share", [question, NO_Q]),
                         ("share", [ALL_R, ALL_S, question]), ("partial", question, 3), ("paper", question)):
                self.refused(desk, deed, ("Unfit", name))
        self.refused(desk, ("share", (WIDE_S, NO_Q)), ("Unfit", "s"))
        # the document's desk never comes to halt such a question
        desk.halted = WIDE_S
        self.refused(desk, ("resume",), ("Unfit", "s"))

    def test_bad_dead(self):
        desk = new_desk()
        for thing in no_sequences():
            self.refused(desk, ("partial", ALL_R, thing), ("BadDead", 0))
        for item in (("r", 1, 0), ("r", 0, 2), ("q", 0, 0), ("r", True, 0), ("r", 0, False), ("r", 0), None, 3):
            self.refused(desk, ("partial", ALL_R, [("s", 0, 0), item, None]), ("BadDead", 1))

    def test_edits(self):
        desk = done(("flush", "r", [LINE]), ("flush", "r", [LINE]))
        for deed, error in (
                (("put", "q", 7), ("NoTable", "q")), (("put", ["r"], (0,)), ("NoTable", ["r"])),
                (("put", "r", (4,)), ("BadRow", (4,))), (("put", "r", [True]), ("BadRow", [True])),
                (("remove", "q", 7), ("NoTable", "q")), (("remove", "r", 7), ("BadRow", 7)),
                (("flush", "q", 3), ("NoTable", "q")), (("flush", "r", 3), ("LayersFull", "r")),
                (("flush", "s", 3), ("BadKinds",)), (("flush", "s", []), ("BadKinds",)),
                (("flush", "s", [("given", ((Box((0,), (3,)),),))]), ("BadKinds",)),
                (("compact", "q", 9), ("NoTable", "q")), (("compact", "r", 2), ("NoLayer", 2)),
                (("compact", "s", 0), ("NoLayer", 0)), (("compact", "r", False), ("NoLayer", False)),
                (("compact", "r", None), ("NoLayer", None)), (("relay", "q", 9, 9, 9), ("NoTable", "q")),
                (("relay", "r", 3, 9, 9), ("NoLayer", 3)), (("relay", "r", 2, 2, 9), ("NoIndex", 2)),
                (("relay", "r", 2, 1, 9), ("BadIndex", "kind")), (("relay", "r", 0, True, LINE), ("NoIndex", True))):
            self.refused(desk, deed, error)

    def test_at(self):
        desk = done(("put", "r", (0,)), ("at", 0))
        for number in no_integers() + [-1, 2, 100]:
            self.refused(desk, ("at", number), ("BadNumber", number))
        self.assertEqual(desk.do_deed(("at", 1)), 0)

    def test_read_and_forget(self):
        desk = done(*reads(r(0, 0)))
        self.refused(desk, ("read",) + r(0, 0), ("Again",))
        self.refused(desk, ("read",) + r(0, 1), ("Again",))
        for read, error in ((("q", 7, 7, 7), ("NoTable", "q")), (("r", 1, 7, 7), ("NoLayer", 1)),
                            (("r", 0, 2, 7), ("NoIndex", 2)), (("r", 0, 0, (4,)), ("BadRow", (4,))),
                            (("r", 0, 0, [False]), ("BadRow", [False])), (("r", False, 0, (0,)), ("NoLayer", False)),
                            (("r", 0, True, (0,)), ("NoIndex", True))):
            self.refused(desk, ("read",) + read, error)
            self.refused(desk, ("forget", [read]), error)
            # ahead of a page that is not known
            self.refused(desk, ("forget", [r(0, 2), r(0, 0), list(read), ("q", 0, 0, 0)]), error)
        for at in range(3):
            self.refused(desk, ("forget", [r(0, 1)] * at + [r(1, 0), s(3)]), ("NotKnown", at))

    def test_paper(self):
        desk = done(*reads(r(0, 0), s(0)))
        self.refused(desk, ("paper", ALL_R), ("Undetermined",))
        self.refused(desk, ("paper", made(R, ("count",))), ("Undetermined",))
        self.assertEqual(desk.do_deed(("paper", made(S, ("any",)))).answer, (0,))


class TestTrials(unittest.TestCase):
    def test_by_hand(self):
        desk = done(*reads(s(0)))
        before = state(desk)
        deeds = [("read",) + r(0, 0), ("put", "r", (0,)), ("ask", ALL_R), ("at", 0), ["forget", [s(0)]], ("cut", ALL_S, 1)]
        tolds = (r(0, 0), 1, (((0,), (1,), (2,)), 2, 4), 3, 1, (None, 1))
        self.assertEqual(desk.trial_deeds(deeds), Trial(tolds, None))
        self.assertEqual(state(desk), before)
        self.assertEqual(desk.trial_deeds(deeds + [("put", "r", (0,)), ("ask",), ("resume",)]), Trial(tolds, 6))
        self.assertEqual(desk.trial_deeds([("read",) + s(0)] + deeds), Trial((), 0))
        self.assertEqual(desk.trial_deeds(deeds[:1] + [3] + deeds), Trial(tolds[:1], 1))
        self.assertEqual(desk.trial_deeds(()), Trial((), None))
        self.assertEqual(state(desk), before)
        self.assertEqual(tuple(desk.do_deed(deed) for deed in deeds), tolds)
        self.assertEqual(desk.trial_deeds([("resume",)]), Trial(((((0,), (3,)), 2, 2),), None))
        self.assertEqual(desk.halted, ALL_S)

    def test_of_a_desk_that_has_gone_on(self):
        desk = done(("put", "r", (0,)), ("cut", ALL_S, 1), ("remove", "r", (1,)), *reads(r(0, 0)), ("at", 1))
        self.assertEqual(desk.trial_deeds([("ask", ALL_R), ("resume",)]),
                         Trial(((((0,), (1,), (2,)), 2, 4), (((0,), (3,)), 2, 2)), None))
        self.assertEqual(desk.trial_deeds([("put", "r", (3,))]), Trial((), 0))
        self.assertEqual(desk.trial_deeds([("read",) + s(0)]), Trial((), 0))
        self.assertEqual(desk.trial_deeds([("at", 2), ("put", "r", (3,))]), Trial((1, 3), None))
        self.assertEqual((desk.number, len(desk.versions), len(desk)), (1, 3, 5))

    def test_trial(self):
        told = Trial((1, 2), None)
        self.assertEqual((told.tolds, told.refused), ((1, 2), None))
        self.assertTrue(told == Trial((1, 2), None))
        for other in (Trial((1,), None), Trial((1, 2), 0), (1, 2), None):
            self.assertFalse(told == other)


class TestStories(unittest.TestCase):
    def test_each_deed(self):
        """Each deed against what the version looked at, the known pages and the halted question give."""
        seen = {}
        for chance, desk, length in stories(231, 60):
            for _ in range(length):
                deed = story_deed(chance, desk)
                before = state(desk)
                try:
                    told = desk.do_deed(deed)
                except FetchError:
                    self.assertEqual(state(desk), before)
                    continue
                seen[deed[0]] = seen.get(deed[0], 0) + 1
                self.assertEqual(desk.log[:-1], before[4])
                self.assertEqual(desk.log[-1][1], told)
                self.check(deed, told, before, desk)
                store = desk.versions[desk.number].store
                self.assertTrue(all(store.holds(entry) for entry in desk.known.entries))
                self.assertEqual(desk.known.shape, store.shape)
                for number, version in enumerate(before[0]):
                    self.assertEqual(desk.versions[number], version)
        self.assertEqual(len(seen), 15)

    def check(self, deed, told, before, desk):
        versions, number, known, halted, _ = before
        store = versions[number].store
        word = deed[0]
        expected_halted = halted
        if word in ("put", "remove", "flush", "compact", "relay"):
            self.assertEqual((told, desk.number, len(desk.versions)), (len(versions), len(versions), len(versions) + 1))
            now = Known(desk.versions[-1].store.shape, standing(known.entries, versions[-1], desk.versions[-1]))
            self.check_edit(deed, versions[-1].store, desk.versions[-1].store)
        elif word == "at":
            now = self.moved(versions, number, deed[1], known)
            self.assertEqual((desk.number, told), (deed[1], now.many))
        elif word == "read":
            self.assertEqual(told, store.place_of(*deed[1:]))
            now = with_names(store, known, [told])
        elif word == "forget":
            names = {store.place_of(*read) for read in deed[1]}
            self.assertEqual(told, len(names))
            now = known.without(names)
        elif word in ("ask", "resume"):
            question = deed[1] if word == "ask" else halted
            run = run_engine(question, store, known)
            self.assertEqual(told, (run.answer, len(run.rounds), sum(len(names) for names in run.rounds)))
            self.assertTrue(is_right(question, store, told[0]))
            now = run.known
            expected_halted = None if word == "resume" else halted
        elif word == "cut":
            now = desk.known
            self.assertEqual(told, (determined(deed[1], now), now.many - known.many))
            self.assertTrue(set(known.names) <= set(now.names) and told[1] <= deed[2])
            if told[0] is None:
                self.assertEqual(told[1], deed[2])
            expected_halted = deed[1] if told[0] is None else None
        elif word == "by":
            log = run_policy(policy_of(deed[1]), deed[2], store, known)
            self.assertEqual(told, (log.answer, len(log.reads)))
            now = with_names(store, known, log.gained)
        elif word == "share":
            shared = Shared(deed[1], store, known)
            answers = shared.finish()
            self.assertEqual(told, (answers, len(shared.rounds), sum(len(names) for names in shared.rounds)))
            now = shared.known
        elif word == "partial":
            partial = read_partial(deed[1], store, known, deed[2])
            self.assertEqual(told, (partial.sure, partial.never, partial.doubt))
            now = partial.known
        else:
            self.assertIsNone(judge_paper(deed[1], told, known))
            self.assertTrue(is_right(deed[1], store, told.answer))
            now = known
        self.assertEqual((desk.known, desk.halted), (now, expected_halted))

    def check_edit(self, deed, store, later):
        """Putting and removing change one row's value; no other edit changes any."""
        for table, widths, _ in store.shape:
            rows = set(store.rows_of(table))
            if table == deed[1] and deed[0] == "put":
                rows.add(deed[2])
            if table == deed[1] and deed[0] == "remove":
                rows.discard(deed[2])
            self.assertEqual(set(later.rows_of(table)), rows)

    def moved(self, versions, number, target, known):
        """The known pages behind an "at", by the words of [16.3]."""
        here, there = versions[number], versions[target]
        if target >= number:
            return Known(there.store.shape, standing(known.entries, here, there))
        kept = [entry for entry in there.store.each_entry()
                if [led for led in standing([entry], there, here) if name_of(led) in known.names]]
        return Known(there.store.shape, kept)

    def test_what_is_told_hangs_on_the_state_alone(self):
        """[16.1]: another desk that came to the same state in another way tells the same."""
        for chance, desk, length in stories(232, 15):
            for _ in range(length):
                raised(desk.do_deed, story_deed(chance, desk))
            first = desk.versions[0]
            other = Desk(first.store, first.kinds, first.room)
            for deed, _ in desk.log:
                if deed[0] in ("put", "remove", "flush", "compact", "relay"):
                    other.do_deed(deed)
            other.do_deed(("at", desk.number))
            for place in desk.known.names:
                other.do_deed(("read",) + place)
            other.halted = desk.halted
            self.assertEqual(desk, other)
            deeds = [story_deed(chance, desk) for _ in range(6)]
            deeds = [deed for deed in deeds if deed[0] != "paper"]
            self.assertEqual(desk.trial_deeds(deeds), other.trial_deeds(deeds))

    def test_trials_tell_what_the_deeds_tell(self):
        for chance, desk, length in stories(233, 25):
            for _ in range(4):
                raised(desk.do_deed, story_deed(chance, desk))
            deeds = [story_deed(chance, desk) for _ in range(8)]
            before = state(desk)
            trial = desk.trial_deeds(deeds)
            self.assertEqual(state(desk), before)
            tolds = []
            for at, deed in enumerate(deeds):
                if at == trial.refused:
                    self.assertIsNotNone(raised(desk.do_deed, deed))
                    break
                tolds.append(desk.do_deed(deed))
            self.assertEqual(trial.tolds, tuple(tolds))

    def test_asked_with_the_factor(self):
        """[16.1]: against sets of pages that determine the answer beside what the desk knows just then."""
        seen = 0
        for chance, desk, length in stories(234, 40):
            for _ in range(length):
                deed = story_deed(chance, desk)
                if deed[0] == "ask" and promised(deed[1]):
                    question, store, known = deed[1], desk.versions[desk.number].store, desk.known
                    sets = list(settling_sets(chance, question, store, known))
                    answer, rounds, pages = desk.do_deed(deed)
                    self.assertEqual(answer, plain_answer(question, store))
                    for names in sets:
                        self.assertLessEqual(rounds, len(names))
                        self.assertLessEqual(pages, most_pages(question, store.shape) * len(names))
                    seen += pages > 0
                else:
                    raised(desk.do_deed, deed)
        self.assertGreater(seen, 10)


if __name__ == "__main__":
    unittest.main()
