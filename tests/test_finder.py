"""Tests of fewfetches.finder: 10.3 to 10.5."""

import copy
import unittest

from fewfetches.boxes import Box, join_along, whole_box
from fewfetches.deciding import decided
from fewfetches.finder import Finder
from fewfetches.kinds import group_of, is_ahead
from fewfetches.knowledge import Known
from fewfetches.questions import Question
from fewfetches.relevant import determined, first_open, settled_ahead
from tests.helpers import only_tuples, page_of, points_in, rows_of, seeded
from tests.makers import WORDS, name_of, random_question, random_store, some_known

A = ("var", 0)
ROW = ("row", "t", (A,))
SHAPE = (("t", (4,), (1,)),)


def made(kind, formula=ROW, widths=(4,)):
    return Question((("t", (4,)),), widths, formula, kind)


def knowing(text):
    """Known pages of one row each: for each sign "p" a row that is put, "-" one without a mark, "?" one not known."""
    return Known(SHAPE, [("t", 0, 0, page_of([(at,)], [((at,), "put")] if sign == "p" else []))
                         for at, sign in enumerate(text) if sign != "?"])


def box_of(line, boxes):
    if line[0] == "answer":
        return Box(line[1], [value + 1 for value in line[1]])
    if line[0] == "join":
        return join_along(boxes[line[1]], boxes[line[2]], line[3])
    return line[1]


class TestNextOpen(unittest.TestCase):
    def test_ahead_of_the_first_call(self):
        for kind in (("all",), ("any",), ("first", 1, (1,), ())):
            self.assertEqual(Finder(made(kind)).found, ())

    def test_going_on(self):
        finder = Finder(made(("all",)))
        self.assertEqual((finder.next_open(knowing("????")), finder.found), ((0,), ()))
        self.assertEqual((finder.next_open(knowing("p???")), finder.found), ((1,), ((0,),)))
        self.assertEqual((finder.next_open(knowing("p?p?")), finder.found), ((1,), ((0,),)))
        self.assertEqual((finder.next_open(knowing("p-p?")), finder.found), ((3,), ((0,), (2,))))
        self.assertEqual((finder.next_open(knowing("p-pp")), finder.found), (None, ((0,), (2,), (3,))))

    def test_pages_forgotten_and_replaced(self):
        finder = Finder(made(("all",)))
        self.assertEqual((finder.next_open(knowing("pp--")), finder.found), (None, ((0,), (1,))))
        self.assertEqual((finder.next_open(knowing("p?--")), finder.found), ((1,), ((0,),)))
        self.assertEqual((finder.next_open(knowing("-pp-")), finder.found), (None, ((1,), (2,))))
        self.assertEqual((finder.next_open(knowing("????")), finder.found), ((0,), ()))
        # the same row in a page of another name
        known = Known(SHAPE, [("t", 0, 0, page_of(rows_of((4,)), [((3,), "put")]))])
        self.assertEqual((finder.next_open(known), finder.found), (None, ((3,),)))
        known = Known(SHAPE, [("t", 0, 0, page_of(rows_of((4,)), [((2,), "put")]))])
        self.assertEqual((finder.next_open(known), finder.found), (None, ((2,),)))
        known = Known(SHAPE, [("t", 0, 0, page_of([(0,), (1,), (2,)], [((2,), "put")]))])
        self.assertEqual((finder.next_open(known), finder.found), ((3,), ((2,),)))

    def test_known_that_grows(self):
        finder = Finder(made(("first", 1, (1,), ())))
        known = knowing("????")
        self.assertEqual(finder.next_open(known), (3,))
        known.add(("t", 0, 0, page_of([(2,)], [((2,), "put")])))
        self.assertEqual((finder.next_open(known), finder.found), ((3,), ()))
        known.add(("t", 0, 0, page_of([(3,)], [])))
        self.assertEqual((finder.next_open(known), finder.found), (None, ((2,),)))

    def test_random(self):
        """More and more pages, fewer, others of the same names, and others altogether."""
        chance = seeded(103)
        for at in range(100):
            question = random_question(chance, WORDS[at % 5])
            store = random_store(chance, question)
            others = [store, store.with_marks(flipped(chance, store)), store]
            finder = Finder(question)
            known = some_known(chance, store, 0.3)
            for step in range(8):
                before = known.twin()
                self.assertEqual(finder.next_open(known), first_open(question, known), (question.told, step))
                self.assertEqual(finder.found, settled_ahead(question, known))
                self.assertTrue(only_tuples(finder.found))
                self.assertEqual(known, before)
                choice = chance.randrange(4)
                if choice < 2:
                    known = more_of(chance, store, known)
                elif choice == 2:
                    known = known.without([name for name in known.names if chance.random() < 0.3])
                else:
                    store = chance.choice(others)
                    known = some_known(chance, store, chance.choice([0.5, 0.9, 1]))


def flipped(chance, store):
    """Changes of some marks of the store."""
    return [(name, layer, row, chance.choice(["put", "gone", None])) for name, widths, counts in store.shape
            for layer in range(len(counts)) for row in rows_of(widths) if chance.random() < 0.3]


def more_of(chance, store, known):
    more = known.twin()
    for entry in store.each_entry():
        if name_of(entry) not in known.names and chance.random() < 0.4:
            more.add(entry)
    return more


class TestLines(unittest.TestCase):
    def test_one_box(self):
        known = Known(SHAPE, [("t", 0, 0, page_of([(0,), (1,)])), ("t", 0, 0, page_of([(2,), (3,)]))])
        lines = Finder(made(("all",))).lines_for(known)
        self.check(made(("all",)), known, lines)
        self.assertTrue(all(line[0] in ("false", "join") for line in lines))

    def test_any(self):
        finder = Finder(made(("any",)))
        self.assertEqual(finder.lines_for(knowing("-?pp")), (("answer", (2,), (("t", 0, 0, (2,)),)),))
        self.assertEqual(finder.found, ((2,),))
        lines = finder.lines_for(knowing("----"))
        self.assertEqual(finder.found, ())
        self.check(made(("any",)), knowing("----"), lines)

    def test_no_variables(self):
        for kind in (("all",), ("count",), ("any",), ("first", 1, (), ()), ("first", 0, (), ())):
            for text in ("??p?", "??-?"):
                question = made(kind, ("row", "t", (("num", 2),)), ())
                self.check(question, knowing(text), Finder(question).lines_for(knowing(text)))

    def test_nothing_asked(self):
        question = made(("first", 0, (1,), ()))
        self.check(question, knowing("????"), Finder(question).lines_for(knowing("????")))

    def test_decided_but_not_uniform(self):
        open_row = ("row", "t", (("num", 3),))
        formula = ("and", (ROW, open_row, ("not", open_row)))
        for text in ("????", "pp-?", "p-??"):
            for kind in (("all",), ("any",), ("first", 1, (1,), ())):
                self.check(made(kind, formula), knowing(text), Finder(made(kind, formula)).lines_for(knowing(text)))
        formula = ("and", (ROW, ("or", (open_row, ("not", open_row)))))
        for kind in (("all",), ("any",), ("first", 1, (1,), ())):
            question = made(kind, formula, (3,))
            self.check(question, knowing("p-p?"), Finder(question).lines_for(knowing("p-p?")))

    def test_found_changes(self):
        finder = Finder(made(("all",)))
        finder.lines_for(knowing("pp??"))
        self.assertEqual(finder.found, ((0,), (1,)))

    def test_random(self):
        chance = seeded(104)
        seen = {}
        for at in range(250):
            question = random_question(chance, WORDS[at % 5])
            store = random_store(chance, question)
            finder = Finder(question)
            for share in (0.4, 0.8, 1):
                known = some_known(chance, store, share)
                before = copy.deepcopy(known)
                lines = finder.lines_for(known)
                self.assertEqual(known, before)
                self.assertEqual(finder.found, settled_ahead(question, known))
                self.check(question, known, lines)
                for line in lines:
                    seen[line[0]] = seen.get(line[0], 0) + 1
        self.assertGreater(min(seen[word] for word in ("false", "answer", "behind", "join")), 20)

    def check(self, question, known, lines):
        """Each line by the words of [10.3], and what [10.5] says of all of them."""
        self.assertIsInstance(lines, tuple)
        self.assertLessEqual(len(lines), 2 * question.points_many + 1)
        boxes, answers = [], []
        for number, line in enumerate(lines):
            self.assertIsInstance(line, tuple)
            if line[0] == "join":
                self.assertTrue(0 <= line[1] < number and 0 <= line[2] < number)
            boxes.append(box_of(line, boxes))
            points = points_in(boxes[-1].lows, boxes[-1].highs)
            self.assertLessEqual(set(points), set(rows_of(question.widths)))
            if line[0] in ("false", "answer"):
                self.assertEqual(line[2], tuple(sorted(set(line[2]))))
                few = known.only(line[2])
                self.assertEqual({decided(question, few, point) for point in points}, {line[0] == "answer"})
            if line[0] == "answer":
                answers.append(line[1])
            if line[0] == "behind":
                self.assertEqual(question.kind[0], "first")
                for point in points:
                    ahead = [other for other in set(answers) if group_of(question, other) == group_of(question, point)
                             and is_ahead(question, other, point)]
                    self.assertGreaterEqual(len(ahead), question.kind[1])
            if line[0] != "answer" and not (line[0] == "join" and answers):
                self.assertFalse(set(points) & set(answers))
        answer = determined(question, known)
        if answer is not None:
            self.assertEqual(len(answers), len(set(answers)))
            self.assertEqual(set(answers), set(settled_ahead(question, known)))
            if question.kind[0] == "any" and answer != (None,):
                self.assertEqual([line[:2] for line in lines], [("answer", answer[0])])
            else:
                self.assertEqual(boxes[-1], whole_box(question.widths))


if __name__ == "__main__":
    unittest.main()
