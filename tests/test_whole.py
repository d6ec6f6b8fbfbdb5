"""The main promise at the head of the document, over the whole program."""

import unittest

from fewfetches.desk import Desk
from fewfetches.engine import run_engine
from fewfetches.floors import floor_fault, floor_of
from fewfetches.foes import Foe
from fewfetches.foils import find_foil, two_stores
from fewfetches.judge import judge_paper, lean_paper
from fewfetches.kinds import is_right, plain_answer
from fewfetches.knowledge import Known
from fewfetches.layers import Layer
from fewfetches.least import least_more
from fewfetches.needles import Needle
from fewfetches.papers import paper_names, paper_of
from fewfetches.questions import Question
from fewfetches.rounds import most_pages
from fewfetches.shared import Shared
from fewfetches.statuses import read_partial
from fewfetches.stores import Store, Table
from tests.desks import stories, story_deed, story_question
from tests.helpers import page_of, random_parting, raised, rows_of
from tests.makers import all_points_of, promised, settling_sets, small_stores, with_names

A = ("var", 0)
FACTOR_WORDS = ("all", "first", "count", "sum")


def other_store(chance, known):
    """Some store of the shape that holds the known pages, with other places and marks everywhere else."""
    tables = []
    for name, widths, counts in known.shape:
        layers = []
        for layer, many in enumerate(counts):
            marks = {row: known.mark(name, layer, row) or chance.choice(["put", "gone", "none"]) for row in rows_of(widths)}
            indexes = []
            for index in range(many):
                pages = [page for _, number, at, page in known.entries if (_, number, at) == (name, layer, index)]
                rest = [row for row in rows_of(widths) if not any(page.holds(row) for page in pages)]
                for lot in random_parting(chance, rest, 4):
                    pages.append(page_of(lot, [(row, marks[row]) for row in lot if marks[row] != "none"]))
                indexes.append(pages)
            layers.append(Layer(widths, indexes))
        tables.append(Table(name, layers))
    return Store(tables)


def least_of(question, store, known, most=3):
    """The least set, or None if it has more pages."""
    try:
        return least_more(question, store, known, most)
    except ValueError:
        return None


class TestMainPromise(unittest.TestCase):
    def test_as_few_as_promised(self):
        seen = 0
        for chance, question, store, known in small_stores(251, 200, FACTOR_WORDS, (0, 0.2, 0.4)):
            least = least_of(question, store, known) if promised(question) else None
            if least is None:
                continue
            run = run_engine(question, store, known)
            pages = sum(len(names) for names in run.rounds)
            self.assertEqual(run.answer, plain_answer(question, store))
            self.assertLessEqual(len(run.rounds), len(least))
            self.assertLessEqual(pages, most_pages(question, store.shape) * len(least))
            seen += len(least) > 1
            # with one page less nobody can be sure, and a floor shows it
            for name in least:
                fewer = with_names(store, known, [other for other in least if other != name])
                self.assertIsNotNone(find_foil(question, store, fewer, run.answer))
                self.assertIsNotNone(two_stores(question, store, fewer))
            floor = floor_of(question, store, known, len(least))
            self.assertIsNone(floor_fault(question, store, known, len(least), floor))
        self.assertGreater(seen, 20)

    def test_sure_in_every_store_that_holds_the_pages(self):
        for chance, question, store, known in small_stores(252, 100):
            run = run_engine(question, store, known)
            paper = paper_of(question, run.known)
            lean = lean_paper(question, paper, run.known)
            named = run.known.only(paper_names(lean))
            self.assertIsNone(judge_paper(question, lean, named))
            for held, answer in ((run.known, run.answer), (named, lean.answer)):
                for _ in range(3):
                    other = other_store(chance, held)
                    self.assertEqual(other.shape, store.shape)
                    self.assertTrue(all(other.holds(entry) for entry in held.entries))
                    self.assertTrue(is_right(question, other, answer))
                    self.assertEqual(run_engine(question, other, held).rounds, ())

    def test_after_edits_and_for_several_questions(self):
        """What is still known of elder versions counts; M is the sum of those of the questions."""
        seen = 0
        for chance, desk, length in stories(253, 40):
            for _ in range(length):
                raised(desk.do_deed, story_deed(chance, desk))
            questions = [question for question in [story_question(chance) for _ in range(3)] if promised(question)]
            store, known = desk.versions[desk.number].store, desk.known
            if not questions:
                continue
            sets = [list(settling_sets(chance, question, store, known, 1))[0] for question in questions]
            answers, rounds, pages = desk.do_deed(("share", questions))
            self.assertEqual(answers, tuple(plain_answer(question, store) for question in questions))
            most = sum(most_pages(question, store.shape) for question in questions)
            self.assertLessEqual(rounds, max(len(names) for names in sets))
            self.assertLessEqual(pages, most * max(len(names) for names in sets))
            seen += rounds > 0 and known.many > 0 and desk.number > 0
            shared = Shared(questions, store, desk.known)
            self.assertTrue(shared.done)
        self.assertGreater(seen, 10)

    def test_with_dead_indexes(self):
        """What the living pages settle is told as in any store that holds them."""
        for chance, question, store, known in small_stores(254, 60):
            indexes = sorted({name[:3] for name in store.page_names})
            dead = [index for index in indexes if chance.random() < 0.4]
            told = read_partial(question, store, known, dead)
            for _ in range(4):
                other = other_store(chance, told.known)
                for point in all_points_of(question):
                    holds = Question(question.tables, question.widths, question.formula, ("all",))
                    if point in told.sure + told.never:
                        self.assertEqual(point in plain_answer(holds, other), point in told.sure)
            self.assertEqual(len(told.sure + told.never + told.doubt), question.points_many)

    def test_every_reader_needs_as_many_of_a_foe(self):
        tables = (("r", (6,)), ("s", (6,)))
        formula = ("and", (("row", "r", (A,)), ("not", ("row", "s", (A,)))))
        for kind in (("all",), ("count",), ("sum", (3,)), ("first", 2, (1,), ())):
            foe = Foe(Question(tables, (6,), formula, kind), (2, 1), blocks=2)
            run = run_engine(foe.question, foe, Known(foe.shape))
            self.assertEqual((len(foe.reads), foe.factor, len(foe.enough_names())), (6, 3, 2))
            now = foe.now_store()
            enough = with_names(now, Known(now.shape), foe.enough_names())
            self.assertEqual(run_engine(foe.question, now, enough).rounds, ())
            self.assertEqual(least_more(foe.question, now, Known(now.shape), 2), foe.enough_names())
            self.assertIsNone(find_foil(foe.question, now, enough, run.answer))

    def test_no_factor_for_any_one_answer(self):
        """However many values the variable has, one page is enough and all are read."""
        for width in (2, 8, 64):
            needle = Needle(Question((("t", (width,)),), (width,), ("row", "t", (A,)), ("any",)), [1])
            run = run_engine(needle.question, needle, Known(needle.shape))
            self.assertEqual((len(run.rounds), run.answer, needle.least), (width, (width - 1,), width))
            now = needle.now_store()
            enough = with_names(now, Known(now.shape), needle.enough_names())
            self.assertEqual((enough.many, run_engine(needle.question, now, enough).rounds), (1, ()))

    def test_a_desk_is_right_to_its_end(self):
        """Stories of many deeds: each question is answered as a plain listing of the version's rows answers it."""
        for chance, desk, length in stories(255, 10, 40):
            for _ in range(length):
                deed = story_deed(chance, desk)
                told = None if raised(desk.do_deed, deed) else desk.log[-1][1]
                store = desk.versions[desk.number].store
                if told is not None and deed[0] == "ask":
                    self.assertTrue(is_right(deed[1], store, told[0]))
                if told is not None and deed[0] == "share":
                    self.assertTrue(all(is_right(one, store, answer) for one, answer in zip(deed[1], told[0])))
            self.assertIsInstance(desk, Desk)
            self.assertEqual([version.number for version in desk.versions], list(range(len(desk.versions))))


if __name__ == "__main__":
    unittest.main()
