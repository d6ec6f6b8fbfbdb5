"""Tests of fewfetches.formulas: 7.1, 7.8, 7.9, 7.10."""

import unittest

from fewfetches.formulas import (all_points, formula_worth, is_one_way, point_worth, polarity, row_nodes, rows_at)
from fewfetches.layers import Layer
from fewfetches.questions import Question
from fewfetches.stores import Store, Table
from tests.helpers import only_tuples, page_of, rows_of, seeded, unchanged
from tests.makers import (all_points_of, plain_holds, plain_rows, random_question, random_store)

A = ("var", 0)
B = ("var", 1)
R = ("row", "r", (A,))
S = ("row", "s", (("num", 2),))
EXAMPLE = Question((("r", (4,)), ("s", (4,))), (4,), ("and", (R, ("not", S))), ("all",))


def made(formula, widths=(4,), tables=(("r", (4,)), ("s", (4,)), ("t", (4, 4)))):
    return Question(tables, widths, formula, ("all",))


class TestPoints(unittest.TestCase):
    def test_ascending(self):
        self.assertEqual(list(all_points((2, 3))), [(0, 0), (0, 1), (0, 2), (1, 0), (1, 1), (1, 2)])
        self.assertEqual(list(all_points([4])), [(0,), (1,), (2,), (3,)])
        self.assertEqual(list(all_points((1, 1, 2, 1, 1))), [(0, 0, 0, 0, 0), (0, 0, 1, 0, 0)])
        self.assertEqual(list(all_points((64,))), rows_of((64,)))

    def test_no_variable(self):
        self.assertEqual(list(all_points(())), [()])


class TestRows(unittest.TestCase):
    def test_example(self):
        self.assertEqual(rows_at(EXAMPLE, (3,)), (("r", (3,)), ("s", (2,))))
        self.assertEqual((polarity(EXAMPLE, "r"), polarity(EXAMPLE, "s")), ("plain", "denied"))
        self.assertTrue(is_one_way(EXAMPLE))
        self.assertEqual(row_nodes(EXAMPLE), (("r", (A,)), ("s", (("num", 2),))))

    def test_row_nodes_as_they_first_stand(self):
        formula = ("or", [S, ("not", ("and", [R, ("row", "t", [A, B])])), S, R, ("row", "t", [B, A])])
        question = made(formula, (4, 4))
        self.assertEqual(row_nodes(question), (("s", (("num", 2),)), ("r", (A,)), ("t", (A, B)), ("t", (B, A))))
        self.assertTrue(only_tuples(row_nodes(question)))

    def test_rows_once_and_ascending(self):
        formula = ("or", (("row", "t", (B, A)), ("row", "t", (A, B)), S, R, ("row", "r", (("num", 1),))))
        question = made(formula, (4, 4))
        self.assertEqual(rows_at(question, (1, 1)), (("r", (1,)), ("s", (2,)), ("t", (1, 1))))
        self.assertEqual(rows_at(question, (3, 0)), (("r", (1,)), ("r", (3,)), ("s", (2,)), ("t", (0, 3)), ("t", (3, 0))))

    def test_rows_whatever_settles_the_formula(self):
        question = made(("and", (("or", ()), R, ("less", A, ("num", 0)))))
        self.assertEqual(rows_at(question, (2,)), (("r", (2,)),))

    def test_no_rows(self):
        question = made(("same", A, A))
        self.assertEqual((row_nodes(question), rows_at(question, (1,))), ((), ()))

    def test_random(self):
        chance = seeded(71)
        for _ in range(60):
            question = random_question(chance)
            for point in all_points_of(question):
                self.assertEqual(rows_at(question, point), tuple(sorted(plain_rows(question.formula, point))))


class TestWorth(unittest.TestCase):
    def test_each_node(self):
        point = (2,)
        worths = {("r", (2,)): True, ("s", (2,)): False}
        yes = ("same", A, ("num", 2))
        no = ("less", A, ("num", 2))
        table = [(R, True), (S, False), (yes, True), (no, False), (("less", ("num", 1), A), True),
                 (("same", ("num", 1), A), False), (("less", ("num", 2), A), False), (("less", A, A), False),
                 (("and", ()), True), (("or", ()), False), (("not", R), False), (("not", S), True),
                 (("and", (R,)), True), (("and", (S,)), False), (("or", (R,)), True), (("or", (S,)), False),
                 (("and", (R, yes)), True), (("and", (R, no)), False), (("or", (S, no)), False),
                 (("or", (S, R)), True), (("or", (R, S)), True), (("and", (S, R)), False),
                 (("not", ("not", R)), True), (("not", ("and", (R, S))), True), (("not", ("or", (R, S))), False)]
        for formula, worth in table:
            self.assertIs(formula_worth(made(formula), point, worths), worth, formula)

    def test_more_worths_than_asked(self):
        self.assertIs(formula_worth(made(R), (1,), {("r", (1,)): True, ("x", (9,)): None}), True)

    def test_two_nodes_that_ask_one_row_have_one_worth(self):
        question = made(("and", (("row", "t", (A, B)), ("not", ("row", "t", (B, A))))), (4, 4))
        for worth in (True, False):
            self.assertIs(formula_worth(question, (2, 2), {("t", (2, 2)): worth}), False)

    def test_random(self):
        chance = seeded(72)
        for _ in range(80):
            question = random_question(chance)
            for point in all_points_of(question):
                rows = sorted(plain_rows(question.formula, point))
                worths = {row: chance.random() < 0.5 for row in rows}
                expected = plain_holds(question.formula, point, lambda name, row: worths[(name, row)])
                self.assertIs(unchanged(self, formula_worth, question, point, worths), expected)

    def test_point_worth(self):
        page = page_of([(0,), (1,), (2,), (3,)], [((1,), "put"), ((2,), "gone")])
        store = Store([Table("r", [Layer((4,), [[page]])]), Table("s", [Layer((4,), [[page]])])])
        question = Question((("r", (4,)), ("s", (4,))), (4,), ("and", (R, ("not", S))), ("all",))
        self.assertEqual([point_worth(question, store, point) for point in all_points((4,))],
                         [False, True, False, False])
        self.assertIs(point_worth(made(("and", ())), store, (0,)), True)

    def test_point_worth_random(self):
        chance = seeded(73)
        for _ in range(40):
            question = random_question(chance)
            store = random_store(chance, question)
            for point in all_points_of(question):
                self.assertIs(point_worth(question, store, point), plain_holds(question.formula, point, store.value))

    def test_deep_formula(self):
        formula = R
        for _ in range(11):
            formula = ("not", formula)
        self.assertIs(formula_worth(made(formula), (0,), {("r", (0,)): True}), False)


class TestPolarity(unittest.TestCase):
    def test_under_several_nots(self):
        formula = R
        for many in range(8):
            self.assertEqual(polarity(made(formula), "r"), "denied" if many % 2 else "plain")
            formula = ("not", formula)

    def test_nots_beside_do_not_count(self):
        formula = ("and", (("not", S), R, ("or", (("not", ("and", (("not", R), S))), R))))
        self.assertEqual((polarity(made(formula), "r"), polarity(made(formula), "s")), ("plain", "denied"))

    def test_both_and_none(self):
        question = made(("and", (R, ("not", ("row", "r", (("num", 0),))))))
        self.assertEqual([polarity(question, name) for name in "rst"], ["both", "none", "none"])
        self.assertIs(is_one_way(question), False)
        self.assertIs(is_one_way(made(("and", (R, R, ("not", S))))), True)
        self.assertIs(is_one_way(made(("and", ()))), True)
        self.assertIs(is_one_way(made(("or", (S, ("not", S))))), False)

    def test_putting_rows_keeps_points(self):
        chance = seeded(74)
        for _ in range(60):
            question = random_question(chance)
            for point in all_points_of(question):
                rows = rows_at(question, point)
                worths = {row: chance.random() < 0.5 for row in rows}
                for name, row in rows:
                    stands = polarity(question, name)
                    if stands in ("plain", "denied") and formula_worth(question, point, worths):
                        self.assertTrue(formula_worth(question, point, {**worths, (name, row): stands == "plain"}))


if __name__ == "__main__":
    unittest.main()
