"""Tests of fewfetches.settled: 10.1, 10.2."""

import itertools
import unittest

from fewfetches.boxes import Box, whole_box
from fewfetches.deciding import decided
from fewfetches.knowledge import Known
from fewfetches.pages import Page
from fewfetches.questions import Question
from fewfetches.settled import point_reasons, reasons, uniform
from tests.helpers import only_tuples, page_of, points_in, raised, rows_of, seeded, unchanged
from tests.makers import (all_points_of, plain_holds, plain_row, random_question, random_store, some_known)

A, B = ("var", 0), ("var", 1)
ROW = ("row", "t", (A,))
TABLES = (("s", (4,)), ("t", (4,)))
SHAPE = (("s", (4,), (1,)), ("t", (4,), (1, 2)))
YES, NO, OPEN = ("and", ()), ("or", ()), ("row", "s", (A,))


def made(formula, widths=(4,)):
    return Question(TABLES, widths, formula, ("all",))


def boxes_in(widths):
    """All boxes within the widths."""
    ranges = [[(low, high) for low in range(width) for high in range(low + 1, width + 1)] for width in widths]
    return [Box([low for low, _ in chosen], [high for _, high in chosen]) for chosen in itertools.product(*ranges)]


def plain_uniform(node, known, box):
    """[10.1] by its words."""
    points = points_in(box.lows, box.highs)
    if node[0] == "row":
        worths = {known.row_worth(*plain_row(node, point)) for point in points}
        return worths.pop() if len(worths) == 1 else None
    if node[0] in ("same", "less"):
        worths = {plain_holds(node, point, None) for point in points}
        return worths.pop() if len(worths) == 1 else None
    if node[0] == "not":
        worth = plain_uniform(node[1], known, box)
        return None if worth is None else not worth
    worths = [plain_uniform(part, known, box) for part in node[1]]
    if node[0] == "and":
        return False if False in worths else None if None in worths else True
    return True if True in worths else None if None in worths else False


def plain_names(node, known, box):
    """The names of [10.2], for a node that is uniform."""
    if node[0] == "row":
        rows = {plain_row(node, point) for point in points_in(box.lows, box.highs)}
        return {name for row in rows for name in known.pages_for(*row)}
    if node[0] in ("same", "less"):
        return set()
    if node[0] == "not":
        return plain_names(node[1], known, box)
    settling = node[0] == "or"
    for part in node[1]:
        if plain_uniform(part, known, box) is settling:
            return plain_names(part, known, box)
    return set().union(*[plain_names(part, known, box) for part in node[1]])


class TestByHand(unittest.TestCase):
    def test_example(self):
        question = Question([("t", (4,))], (4,), ROW, ("all",))
        known = Known((("t", (4,), (1,)),), [("t", 0, 0, Page([Box((1,), (3,))], []))])
        self.assertEqual([uniform(question, known, Box((1,), (3,))), uniform(question, known, Box((1,), (4,)))],
                         [False, None])
        self.assertEqual(reasons(question, known, Box((2,), (3,))), (("t", 0, 0, (1,)),))
        self.assertEqual(raised(reasons, question, known, Box((1,), (4,))), ("NotUniform",))

    def test_table_of_and_or_not(self):
        nothing = Known(SHAPE)
        box = whole_box((4,))
        parts = {True: YES, False: NO, None: OPEN}
        for one, other in itertools.product(parts, repeat=2):
            both = (parts[one], parts[other])
            worth = False if False in (one, other) else None if None in (one, other) else True
            self.assertIs(uniform(made(("and", both)), nothing, box), worth)
            worth = True if True in (one, other) else None if None in (one, other) else False
            self.assertIs(uniform(made(("or", both)), nothing, box), worth)
        for worth, part in parts.items():
            self.assertIs(uniform(made(("not", part)), nothing, box), None if worth is None else not worth)
            self.assertIs(uniform(made(("and", (part,))), nothing, box), worth)
        self.assertIs(uniform(made(("and", ())), nothing, box), True)
        self.assertIs(uniform(made(("or", ())), nothing, box), False)

    def test_comparisons(self):
        nothing = Known(SHAPE)
        table = [(("less", A, ("num", 2)), [(0, 2, True), (2, 4, False), (1, 3, None), (0, 4, None), (1, 2, True)]),
                 (("same", A, ("num", 2)), [(0, 2, False), (2, 3, True), (3, 4, False), (0, 4, None), (2, 4, None)]),
                 (("same", A, A), [(0, 4, True)]), (("less", A, A), [(0, 4, False)]),
                 (("less", ("num", 1), ("num", 2)), [(0, 4, True)]), (("same", ("num", 1), ("num", 2)), [(0, 4, False)])]
        for formula, cases in table:
            for low, high, worth in cases:
                self.assertIs(uniform(made(formula), nothing, Box((low,), (high,))), worth, (formula, low, high))
        question = made(("less", A, B), (4, 4))
        self.assertIs(uniform(question, nothing, Box((0, 2), (2, 4))), True)
        self.assertIs(uniform(question, nothing, Box((0, 2), (3, 4))), None)
        self.assertIs(uniform(question, nothing, Box((2, 0), (4, 3))), False)

    def test_one_variable_twice(self):
        question = Question((("t", (3, 3)),), (3, 2), ("row", "t", (A, A)), ("all",))
        pages = [("t", 0, 0, page_of([(at, at)], [((at, at), "put")])) for at in range(3)]
        known = Known((("t", (3, 3), (1,)),), pages)
        self.assertIs(uniform(question, known, whole_box((3, 2))), True)
        self.assertEqual(reasons(question, known, Box((1, 0), (3, 2))), (("t", 0, 0, (1, 1)), ("t", 0, 0, (2, 2))))

    def test_decided_need_not_be_uniform(self):
        question = made(("or", (ROW, ("not", ROW))))
        nothing = Known(SHAPE)
        self.assertIs(decided(question, nothing, (1,)), True)
        self.assertIs(uniform(question, nothing, Box((1,), (2,))), None)
        self.assertEqual(point_reasons(question, nothing, (1,)), ())
        # only what is known of the point's rows is told then
        formula = ("or", (ROW, ("not", ROW), OPEN))
        known = Known(SHAPE, [("s", 0, 0, page_of([(1,)], []))])
        self.assertEqual(point_reasons(made(formula), known, (1,)), (("s", 0, 0, (1,)),))
        formula = ("or", (OPEN, ("not", OPEN), ROW, ("row", "t", (("num", 3),)), ("row", "t", (("num", 2),))))
        known = Known(SHAPE, [("t", layer, 0, page_of([(at,)])) for layer in (0, 1) for at in (3, 1, 2)])
        self.assertEqual(point_reasons(made(formula), known, (1,)), known.names)

    def test_first_settling_part(self):
        pages = [("s", 0, 0, page_of(rows_of((4,)))), ("t", 0, 0, page_of(rows_of((4,)))),
                 ("t", 1, 1, page_of(rows_of((4,)), [((3,), "put")]))]
        known = Known(SHAPE, pages)
        box = Box((0,), (2,))
        s, t = ("row", "s", (A,)), ROW
        names = {"s": ("s", 0, 0, (0,)), "t": ("t", 0, 0, (0,)), "u": ("t", 1, 1, (0,))}
        table = [(("and", (s, t)), "s"), (("and", (t, s)), "tu"), (("and", (("not", t), s)), "s"), (("or", (s, t)), "stu"),
                 (("or", (s, ("not", t))), "tu"), (("or", (("not", s), ("not", t))), "s"), (("and", (("not", s), ("not", t))), "stu"),
                 (("not", ("and", (YES, t))), "tu"), (("and", (NO, s)), ""), (("or", (YES, s)), ""), (("and", ()), ""),
                 (("or", (("less", A, ("num", 2)), s)), ""), (("and", (("less", A, ("num", 2)), s)), "s")]
        for formula, told in table:
            self.assertEqual(reasons(made(formula), known, box), tuple(names[sign] for sign in told), formula)

    def test_no_variables(self):
        question = made(("row", "t", (("num", 3),)), ())
        known = Known(SHAPE, [("t", 0, 0, page_of([(3,)], [((3,), "put")]))])
        self.assertIs(uniform(question, known, whole_box(())), True)
        self.assertEqual(reasons(question, known, whole_box(())), (("t", 0, 0, (3,)),))
        self.assertEqual(point_reasons(question, known, ()), (("t", 0, 0, (3,)),))
        self.assertEqual(raised(point_reasons, question, Known(SHAPE), ()), ("NotDecided",))


class TestAgainstPoints(unittest.TestCase):
    def test_random(self):
        chance = seeded(101)
        seen = {True: 0, False: 0, None: 0}
        for _ in range(120):
            question = random_question(chance)
            store = random_store(chance, question)
            known = some_known(chance, store, chance.choice([0.3, 0.7, 0.9, 1]))
            boxes = boxes_in(question.widths)
            for box in chance.sample(boxes, min(len(boxes), 12)):
                worth = unchanged(self, uniform, question, known, box)
                seen[worth] += 1
                self.assertIs(worth, plain_uniform(question.formula, known, box))
                if worth is None:
                    self.assertEqual(raised(reasons, question, known, box), ("NotUniform",))
                else:
                    names = unchanged(self, reasons, question, known, box)
                    self.assertEqual(names, tuple(sorted(plain_names(question.formula, known, box))))
                    self.assertIs(uniform(question, known.only(names), box), worth)
                    self.assertTrue(only_tuples(names))
                    for point in points_in(box.lows, box.highs):
                        self.assertIs(decided(question, known.only(names), point), worth)
        self.assertGreater(min(seen.values()), 50)

    def test_point_reasons(self):
        chance = seeded(102)
        for _ in range(120):
            question = random_question(chance)
            store = random_store(chance, question)
            known = some_known(chance, store, chance.choice([0.3, 0.7, 0.9, 1]))
            for point in all_points_of(question):
                worth = decided(question, known, point)
                if worth is None:
                    self.assertEqual(raised(point_reasons, question, known, point), ("NotDecided",))
                    continue
                names = point_reasons(question, known, point)
                box = Box(point, [value + 1 for value in point])
                if plain_uniform(question.formula, known, box) is not None:
                    self.assertEqual(names, reasons(question, known, box))
                else:
                    rows = {plain_row(node, point) for node in nodes_of(question.formula) if node[0] == "row"}
                    self.assertEqual(names, tuple(sorted({name for row in rows for name in known.pages_for(*row)})))
                self.assertIs(decided(question, known.only(names), point), worth)


def nodes_of(node):
    parts = node[1] if node[0] in ("and", "or") else (node[1],) if node[0] == "not" else ()
    return [node] + [below for part in parts for below in nodes_of(part)]


if __name__ == "__main__":
    unittest.main()
