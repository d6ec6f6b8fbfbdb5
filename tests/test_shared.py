"""Tests of fewfetches.shared: 15.1, 15.5 and 15.6."""

import copy
import unittest

from fewfetches.engine import run_engine
from fewfetches.foes import Foe
from fewfetches.kinds import is_right
from fewfetches.knowledge import Known
from fewfetches.questions import Question
from fewfetches.relevant import determined
from fewfetches.rounds import most_pages, next_round
from fewfetches.shared import Shared
from fewfetches.stores import Store, Table
from tests.desks import R, S, STORE, made, r, s
from tests.helpers import only_tuples, seeded
from tests.makers import (WIDTHS, all_known, laid_line, promised, random_kind, random_formula, random_store,
                          settling_sets, some_known, with_names)

NOTHING = Known(STORE.shape)


class TestByHand(unittest.TestCase):
    def test_two_questions(self):
        questions = [made(R), made(("and", (R, S)), ("first", 1, (1,), ()))]
        shared = Shared(questions, STORE, NOTHING)
        grown = shared.known
        self.assertEqual((shared.questions, shared.rounds, shared.answers, shared.done),
                         (tuple(questions), (), (None, None), False))
        self.assertEqual(shared.known, NOTHING)
        # the first asks r at 0, the second r and s at 3
        first = (r(0, 0), r(0, 2), r(1, 0), r(1, 1), s(3))
        self.assertEqual(shared.step(), first)
        self.assertEqual((shared.rounds, shared.answers, shared.done), ((first,), ((((1,), (2,)),), None), False))
        # r is not in at 3, so the second goes on to 2 alone
        self.assertEqual(shared.step(), (s(1),))
        self.assertEqual((shared.rounds, shared.answers, shared.done),
                         ((first, (s(1),)), ((((1,), (2,)),), ((),)), True))
        self.assertEqual(shared.step(), ())
        self.assertEqual(shared.rounds, (first, (s(1),)))
        self.assertEqual(shared.finish(), (((1,), (2,)), ()))
        self.assertIs(shared.known, grown)
        self.assertEqual(shared.known.names, tuple(sorted(first + (s(1),))))
        self.assertEqual(NOTHING.many, 0)

    def test_the_same_read_twice(self):
        """Reads of a page that is known by then are left out, within a question and of a later one."""
        shared = Shared((made(S), made(("not", S)), made(S, ("count",))), STORE, NOTHING)
        self.assertEqual(shared.step(), (s(0),))
        self.assertEqual(shared.step(), (s(1),))
        self.assertEqual(shared.answers, (None, None, None))
        self.assertEqual(shared.step(), (s(3),))
        self.assertEqual(shared.finish(), (((0,), (3,)), ((1,), (2,)), 2))

    def test_reads_are_found_ahead_of_the_round(self):
        """The page that the first question reads decides the point of the second, whose reads are made all the same."""
        store = Store([Table("r", [laid_line("pppp", "0123", "0/1/2/3")]), Table("s", [laid_line("----", "0123")])])
        shared = Shared((made(R), made(R, ("first", 1, (1,), ()))), store, Known(store.shape))
        self.assertEqual(shared.step(), (r(0, 0), r(1, 0), r(1, 3)))
        self.assertTrue(shared.done)

    def test_one_question(self):
        for question in (made(R), made(S, ("count",)), made(R, ("any",))):
            shared = Shared([question], STORE, NOTHING)
            told = run_engine(question, STORE, NOTHING)
            self.assertEqual(shared.finish(), (told.answer,))
            self.assertEqual(shared.rounds, tuple(tuple(sorted(names)) for names in told.rounds))

    def test_one_question_twice(self):
        question = made(R)
        once, twice = Shared([question], STORE, NOTHING), Shared([question, question], STORE, NOTHING)
        self.assertEqual(twice.finish(), once.finish() * 2)
        self.assertEqual(twice.rounds, once.rounds)

    def test_determined_at_first(self):
        shared = Shared([made(("or", ()), ("any",)), made(("and", ()), ("count",))], None, NOTHING)
        self.assertEqual((shared.done, shared.answers, shared.step(), shared.finish(), shared.rounds),
                         (True, ((None,), (4,)), (), (None, 4), ()))
        shared = Shared([made(R), made(S, ("any",))], None, all_known(STORE))
        self.assertEqual((shared.done, shared.answers), (True, ((((1,), (2,)),), ((0,),))))
        shared = Shared([made(R, ("first", 0, (0,), ())), made(S)], STORE, NOTHING)
        self.assertEqual((shared.done, shared.answers, shared.step()), (False, (((),), None), (s(0),)))

    def test_later_changes_to_what_was_passed(self):
        questions, known = [made(S)], NOTHING.twin()
        shared = Shared(questions, STORE, known)
        questions.append(made(R))
        known.add(s(0)[:3] + (STORE.read(*s(0)),))
        self.assertEqual((shared.questions, shared.known.many, shared.step()), ((made(S),), 0, (s(0),)))

    def test_over_a_foe(self):
        tables = (("r", (8,)), ("s", (8,)))
        one = Question(tables, (8,), ("and", (R, S)), ("all",))
        foe = Foe(one, (2, 1))
        shared = Shared([one, Question(tables, (8,), R, ("count",))], foe, Known(foe.shape))
        self.assertEqual(shared.step(), (r(0, 0), r(1, 0), s(0)))
        self.assertEqual((shared.answers, foe.reads), ((((),), None), (r(0, 0), r(1, 0), s(0))))
        self.assertEqual(shared.finish(), ((), 0))
        self.assertEqual(set(foe.reads), set(shared.known.names))


def plain_shared(questions, store, known):
    """The rounds by the words of [15.5]."""
    known = known.twin()
    rounds = []
    while any(determined(question, known) is None for question in questions):
        reads = [read for question in questions if determined(question, known) is None
                 for read in next_round(question, known)]
        names = {store.place_of(*read) for read in reads}
        known = with_names(store, known, names)
        rounds.append(tuple(sorted(names)))
    return tuple(rounds), tuple(determined(question, known)[0] for question in questions)


def random_questions(chance, words=None):
    """One to three questions over the same tables, with a store and known pages."""
    tables = tuple((name, WIDTHS[name]) for name in sorted(WIDTHS))
    questions = []
    for _ in range(chance.choice([1, 2, 2, 3])):
        widths = tuple(chance.choice([1, 2, 3, 4]) for _ in range(chance.choice([0, 1, 2])))
        kind = random_kind(chance, len(widths), chance.choice(words) if words else None)
        questions.append(Question(tables, widths, random_formula(chance, tables, widths), kind))
    store = random_store(chance, questions[0], chance.choice([1, 1, 2]))
    return questions, store, some_known(chance, store, chance.choice([0, 0.3]))


class TestRandom(unittest.TestCase):
    def test_against_the_words(self):
        chance = seeded(201)
        for _ in range(100):
            questions, store, known = random_questions(chance)
            before = copy.deepcopy((questions, known))
            shared = Shared(questions, store, known)
            while not shared.done:
                told = shared.step()
                self.assertEqual(shared.rounds[-1], told)
                self.assertEqual(shared.answers, tuple(determined(question, shared.known) for question in questions))
                self.assertTrue(only_tuples((told, shared.rounds, shared.answers)))
            self.assertEqual((shared.rounds, shared.finish()), plain_shared(questions, store, known))
            self.assertTrue(all(is_right(question, store, answer)
                                for question, answer in zip(questions, shared.finish())))
            self.assertEqual((questions, known), before)

    def test_factor(self):
        """[15.6]"""
        chance = seeded(202)
        seen = 0
        for _ in range(100):
            questions, store, known = random_questions(chance, ("all", "first", "count", "sum"))
            if not all(promised(question) for question in questions):
                continue
            seen += len(questions) > 1
            shared = Shared(questions, store, known)
            while not shared.done:
                most = sum(most_pages(question, store.shape)
                           for question, told in zip(questions, shared.answers) if told is None)
                self.assertLessEqual(1, len(shared.step()))
                self.assertLessEqual(len(shared.rounds[-1]), most)
            for _ in range(2):
                sets = [list(settling_sets(chance, question, store, known, 1))[0] for question in questions]
                self.assertLessEqual(len(shared.rounds), max(len(names) for names in sets))
        self.assertGreater(seen, 20)


if __name__ == "__main__":
    unittest.main()
