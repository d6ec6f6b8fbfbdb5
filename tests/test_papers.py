"""Tests of fewfetches.papers: 11.1, 11.2, 11.4, 11.5, 11.7."""

import unittest

from fewfetches.boxes import Box
from fewfetches.judge import judge_paper
from fewfetches.kinds import is_right
from fewfetches.knowledge import Known
from fewfetches.papers import Paper, paper_names, paper_of
from fewfetches.questions import Question
from fewfetches.relevant import determined
from tests.helpers import Odd, only_tuples, page_of, raised, rows_of, seeded, unchanged
from tests.makers import (WORDS, all_points_of, filled_store, plain_rows, random_question, random_store, some_known)

NAME = ("t", 0, 0, (0,))
OTHER = ("t", 0, 0, (2,))
LINES = (("answer", (1,), (NAME,)), ("false", Box((0,), (1,)), (NAME, OTHER)), ("behind", Box((2,), (4,))),
         ("join", 0, 1, 0), ("join", 3, 2, 0))
SHAPE = (("t", (4,), (1,)),)


class TestPaper(unittest.TestCase):
    def test_keeps_what_it_is_given(self):
        lines = [["answer", [1], [NAME]], 3, None, ("join", True)]
        paper = Paper(lines, [1, [2]])
        lines.append(4)
        self.assertEqual(paper.lines, (["answer", [1], [NAME]], 3, None, ("join", True)))
        self.assertEqual(paper.answer, [1, [2]])
        self.assertEqual(len(paper), 4)
        self.assertEqual(list(paper), list(paper.lines))
        self.assertEqual(Paper((), None).lines, ())

    def test_checks_nothing(self):
        odd = [None, 3, "false", Odd(), (), [], ("false",), ("odd", 1), (["false"], 2), {"a": 1}, ("false", 1, 2), ("answer", "ab", 3),
               ("join", 1, 2), ("behind", None), (None, None)]
        for thing in odd:
            paper = Paper([thing], thing)
            self.assertEqual((len(paper), paper.lines[0]), (1, thing))
        self.assertEqual(Paper(odd, odd).lines, tuple(odd))

    def test_length_and_iteration(self):
        paper = Paper(LINES, 3)
        self.assertEqual(len(paper), 5)
        self.assertEqual([line for line in paper], list(LINES))
        self.assertEqual(list(paper), list(paper))
        self.assertEqual((len(Paper([], 0)), list(Paper([], 0))), (0, []))

    def test_equality(self):
        paper = Paper(LINES, (1,))
        self.assertEqual(paper, Paper(list(LINES), (1,)))
        others = [Paper(LINES, (2,)), Paper(LINES, [1]), Paper(LINES[:4], (1,)), Paper(LINES[::-1], (1,)), Paper((), (1,)),
                  Paper(LINES[:4] + (["join", 3, 2, 0],), (1,)), Paper(LINES[:1] + (("false", Box((0,), (2,)), (NAME, OTHER)),)
                                                                       + LINES[2:], (1,)), LINES, (LINES, (1,)), None]
        for other in others:
            self.assertFalse(paper == other)

    def test_told(self):
        paper = Paper(LINES, ((1,),))
        told = (("answer", (1,), (NAME,)), ("false", ((0,), (1,)), (NAME, OTHER)), ("behind", ((2,), (4,))),
                ("join", 0, 1, 0), ("join", 3, 2, 0))
        self.assertEqual(paper.told, (told, ((1,),)))
        self.assertEqual(Paper.of_told(paper.told), paper)
        self.assertIsInstance(Paper.of_told(paper.told), Paper)

    def test_told_has_tuples_for_lists(self):
        lines = [["answer", [1], [NAME]], ["false", Box([0], [1]), [NAME]], ["behind", Box((2,), (4,))], ["join", 0, 1, 0]]
        paper = Paper(lines, [[1], [2]])
        self.assertEqual(paper.told, ((("answer", (1,), (NAME,)), ("false", ((0,), (1,)), (NAME,)), ("behind", ((2,), (4,))),
                                       ("join", 0, 1, 0)), ((1,), (2,))))
        self.assertTrue(only_tuples(paper.told))
        self.assertEqual(Paper.of_told(paper.told).told, paper.told)
        for answer in (None, 0, 7, (), ((),)):
            self.assertEqual(Paper((), answer).told, ((), answer))

    def test_no_columns(self):
        paper = Paper([("false", Box((), ()), ()), ("answer", (), ()), ("behind", Box((), ()))], ())
        self.assertEqual(paper.told, ((("false", ((), ()), ()), ("answer", (), ()), ("behind", ((), ()))), ()))
        self.assertEqual(Paper.of_told(paper.told), paper)

    def test_names(self):
        self.assertEqual(paper_names(Paper(LINES, None)), (NAME, OTHER))
        lines = [["answer", [1], [OTHER, NAME, OTHER]], ("false", Box((0,), (1,)), (("s", 1, 0, (0, 0)),)), ("join", 0, 1, 0)]
        self.assertEqual(unchanged(self, paper_names, Paper(lines, None)), (("s", 1, 0, (0, 0)), NAME, OTHER))
        self.assertEqual(paper_names(Paper([], None)), ())
        self.assertEqual(paper_names(Paper([("behind", Box((0,), (1,))), ("join", 0, 0, 0)], None)), ())


class TestPaperOf(unittest.TestCase):
    def test_by_hand(self):
        row = ("row", "t", (("var", 0),))
        known = Known(SHAPE, [("t", 0, 0, page_of(rows_of((4,)), [((2,), "put"), ((3,), "gone")]))])
        for kind, answer in ((("all",), ((2,),)), (("count",), 1), (("sum", (5,)), 11), (("any",), (2,)),
                             (("first", 1, (1,), ()), ((2,),)), (("first", 0, (1,), ()), ())):
            question = Question((("t", (4,)),), (4,), row, kind)
            paper = paper_of(question, known)
            self.assertEqual(paper.answer, answer)
            self.assertIsNone(judge_paper(question, paper, known))
            if kind[0] != "first" or kind[1] > 0:
                self.assertEqual(raised(paper_of, question, Known(SHAPE)), ("Undetermined",))

    def test_random(self):
        chance = seeded(111)
        seen = {True: 0, False: 0}
        for at in range(250):
            question = random_question(chance, WORDS[at % 5])
            store = random_store(chance, question)
            known = some_known(chance, store, chance.choice([0, 0.5, 0.8, 0.95, 1]))
            answer = determined(question, known)
            seen[answer is None] += 1
            if answer is None:
                self.assertEqual(raised(paper_of, question, known), ("Undetermined",))
                continue
            paper = unchanged(self, paper_of, question, known)
            self.assertIsNone(judge_paper(question, paper, known))
            self.assertEqual(paper.answer, answer[0])
            self.assertLessEqual(len(paper), 2 * question.points_many + 1)
            self.assertLessEqual(set(paper_names(paper)), set(known.names))
            self.assertEqual(paper_names(paper), tuple(sorted(set(paper_names(paper)))))
            self.assertIsNone(judge_paper(question, paper, known.only(paper_names(paper))))
            again = Paper.of_told(paper.told)
            self.assertEqual((again, again.told), (paper, paper.told))
            self.assertTrue(only_tuples(paper.told))
            self.check_right(chance, question, store, known.only(paper_names(paper)), paper.answer)
        self.assertGreater(min(seen.values()), 40)

    def check_right(self, chance, question, store, known, answer):
        """The answer is right in stores that hold the pages named, whatever the other rows are."""
        rows = set().union(*[plain_rows(question.formula, point) for point in all_points_of(question)])
        for _ in range(3):
            worths = {row: chance.random() < 0.5 for row in rows}
            other = filled_store(store, known, worths)
            self.assertTrue(all(other.holds(entry) for entry in known.entries))
            self.assertTrue(is_right(question, other, answer))


if __name__ == "__main__":
    unittest.main()
