"""Questions: [7.2] to [7.7]."""

import copy
import unittest

from fewfetches.questions import Question
from tests.helpers import Odd, no_integers, no_names, no_sequences, only_tuples, raised

TABLES = (("r", (4,)), ("s", (4, 2)))
WIDTHS = (4, 2)
A, B = ("var", 0), ("var", 1)
ROW = ("row", "r", (A,))
TRUE = ("and", ())
ALL = ("all",)


def fault(tables=TABLES, widths=WIDTHS, formula=TRUE, kind=ALL):
    """What and at of the BadQuestion that is raised, or None."""
    error = raised(Question, tables, widths, formula, kind)
    if error is None:
        return None
    assert error[0] == "BadQuestion"
    return error[1:]


def formula_fault(formula):
    return fault(formula=formula)


def nested(deep, inner):
    """The inner node so deep: the formula itself lies 1 deep."""
    for _ in range(deep - 1):
        inner = ("not", inner)
    return inner


class TestQuestion(unittest.TestCase):
    def test_example(self):
        formula = ("and", (("row", "r", (("var", 0),)), ("not", ("row", "s", (("num", 2),)))))
        question = Question((("r", (4,)), ("s", (4,))), (4,), formula, ("all",))
        self.assertEqual(question.tables, (("r", (4,)), ("s", (4,))))
        self.assertEqual((question.widths, question.formula, question.kind), ((4,), formula, ("all",)))
        self.assertEqual(question.points_many, 4)
        self.assertEqual(question.told, (question.tables, (4,), formula, ("all",)))

    def test_lists_become_tuples_at_every_depth(self):
        tables = [["r", [4]], ["s", (4, 2)]]
        formula = ["or", [["not", ["row", "s", [["var", 0], ["num", 1]]]], ["and", []], ["less", ["var", 1], A],
                          ("same", ["num", 63], B)]]
        kind = ["first", 3, [2, -1], [0, 1]]
        given = [tables, [4, 2], formula, kind]
        before = copy.deepcopy(given)
        question = Question(*given)
        self.assertEqual(given, before)
        self.assertEqual(question.told, (
            TABLES, WIDTHS,
            ("or", (("not", ("row", "s", (A, ("num", 1)))), ("and", ()), ("less", B, A), ("same", ("num", 63), B))),
            ("first", 3, (2, -1), (0, 1))))
        self.assertTrue(only_tuples(question.told))
        self.assertTrue(only_tuples((question.tables, question.widths, question.formula, question.kind)))
        formula[1].clear()
        kind[2][0] = 9
        tables[0][1][0] = 9
        self.assertEqual(question.kind, ("first", 3, (2, -1), (0, 1)))
        self.assertEqual(len(question.formula[1]), 4)
        self.assertEqual(question.tables, TABLES)

    def test_no_variables(self):
        question = Question([("r", (4,))], (), ("row", "r", (("num", 3),)), ("sum", ()))
        self.assertEqual((question.widths, question.points_many), ((), 1))
        self.assertEqual(Question([("r", (4,))], [], TRUE, ("first", 0, (), [])).kind, ("first", 0, (), ()))

    def test_points(self):
        for widths, many in (((32, 32, 32), 32768), ((64, 64, 8), 32768), ((8, 8, 8, 8, 8), 32768),
                             ((1, 1, 1, 1, 1), 1), ((64,), 64), ((2, 3), 6)):
            self.assertEqual(Question(TABLES, widths, TRUE, ALL).points_many, many)
        for widths in ((64, 64, 9), (32, 32, 33), (8, 8, 8, 8, 9), (64, 64, 64, 64, 64), (1, 33, 31, 33)):
            self.assertEqual(fault(widths=widths), ("points", 0))
        self.assertIsNone(fault(widths=(32, 32, 31)))

    def test_equality(self):
        question = Question(TABLES, WIDTHS, ROW, ALL)
        self.assertEqual(question, Question([["r", [4]], ["s", [4, 2]]], [4, 2], ["row", "r", [["var", 0]]], ["all"]))
        for unlike in (Question(TABLES[:1], WIDTHS, ROW, ALL), Question(TABLES, (4, 3), ROW, ALL),
                       Question(TABLES, WIDTHS, TRUE, ALL), Question(TABLES, WIDTHS, ROW, ("any",))):
            self.assertIs(question == unlike, False)
            self.assertIs(question != unlike, True)
        for thing in (None, question.told, list(question.told), "question"):
            self.assertIs(question == thing, False)

    def test_of_told(self):
        question = Question(TABLES, WIDTHS, ("or", (ROW, TRUE)), ("sum", (0, 1000)))
        for told in (question.told, list(question.told)):
            again = Question.of_told(told)
            self.assertIsInstance(again, Question)
            self.assertEqual(again, question)
        for thing in no_sequences() + [(), question.told[:3], question.told + (1,), [1, 2, 3], "abcd", question]:
            self.assertEqual(raised(Question.of_told, thing), ("BadQuestion", "tables", 0))
        self.assertEqual(raised(Question.of_told, (TABLES, WIDTHS, TRUE, ("al",))), ("BadQuestion", "kind", 0))
        self.assertEqual(raised(Question.of_told, (1, 2, 3, 4)), ("BadQuestion", "tables", 0))

    def test_tables_that_the_formula_does_not_name(self):
        self.assertIsNone(fault(formula=ROW))
        self.assertIsNone(fault(tables=[(name, (1,)) for name in "abcdefgh"]))


class TestTablesAndWidths(unittest.TestCase):
    def test_tables(self):
        for tables in no_sequences() + [(), [], [(name, (1,)) for name in "abcdefghi"]]:
            self.assertEqual(fault(tables=tables, widths=None), ("tables", 0))
        for couple in no_sequences() + [(), ("b",), ("b", (1,), 1), "bc", ["b", 1], ("b", None), ("b", ()),
                                        ("b", (0,)), ("b", (65,)), ("b", (True,)), ("b", (64, 65)),
                                        ("b", (1, 1, 1, 1))] + [(name, (1,)) for name in no_names()]:
            self.assertEqual(fault(tables=[couple]), ("tables", 0))
            self.assertEqual(fault(tables=(("a", (1,)), couple, couple), widths=None), ("tables", 1))

    def test_order_of_names(self):
        self.assertEqual(fault(tables=[("b", (1,)), ("a", (1,))]), ("tables", 1))
        self.assertEqual(fault(tables=[("a", (1,)), ("b", (1,)), ("b", (2,))]), ("tables", 2))
        self.assertEqual(fault(tables=[("a", (1,)), ("c", (1,)), ("b", (1,)), 3]), ("tables", 2))
        self.assertIsNone(fault(tables=[("a", (1,)), ("aa", (1,)), ("ab", (1,)), ("b", (1,))]))

    def test_widths(self):
        for widths in no_sequences() + [(1,) * 6, [2] * 7]:
            self.assertEqual(fault(widths=widths, formula=None), ("widths", 0))
        for thing in no_integers() + [0, -1, 65]:
            self.assertEqual(fault(widths=(thing,)), ("widths", 0))
            self.assertEqual(fault(widths=[1, 64, thing, 0], formula=None), ("widths", 2))
        self.assertEqual(fault(widths=(64, 64, 64, 65)), ("widths", 3))

    def test_order_of_faults(self):
        self.assertEqual(fault((), None, None, None), ("tables", 0))
        self.assertEqual(fault(TABLES, (0,), None, None), ("widths", 0))
        self.assertEqual(fault(TABLES, (64, 64, 64), None, None), ("points", 0))
        self.assertEqual(fault(TABLES, WIDTHS, None, None), ("node", 0))
        self.assertEqual(fault(TABLES, WIDTHS, TRUE, None), ("kind", 0))


class TestFormula(unittest.TestCase):
    def test_right_nodes(self):
        for node in (ROW, ("row", "s", (("num", 3), B)), ("same", A, B), ("less", ("num", 0), ("num", 63)),
                     ("and", ()), ("or", [ROW]), ("and", (ROW,) * 8), ("not", ROW), ["not", ["or", []]]):
            self.assertIsNone(formula_fault(node))

    def test_no_node(self):
        wrong = [(), ("row",), ("row", "r"), ("row", "r", (A,), 1), ("same", A), ("less", A, B, A), ("and",),
                 ("and", (), ()), ("or",), ("not",), ("not", ROW, ROW), ("xor", ()), ("", ()), (None, ()), ("And", ()),
                 (["and"], ()), ({}, ()), (True, ()), (b"and", ()), "and", "or", ("true",), (("and",), ())]
        for node in no_sequences() + wrong:
            self.assertEqual(formula_fault(node), ("node", 0))
            self.assertEqual(formula_fault(("and", (ROW, ("not", TRUE), node))), ("node", 4))

    def test_preorder_numbers(self):
        good = ("or", (ROW, ("not", ("and", (ROW, TRUE)))))
        self.assertIsNone(formula_fault(good))
        self.assertEqual(formula_fault(("or", (ROW, ("not", ("and", (ROW, None)))))), ("node", 5))
        self.assertEqual(formula_fault(("or", (good, None))), ("node", 7))
        self.assertEqual(formula_fault(("or", (("not", None), None))), ("node", 2))
        self.assertEqual(formula_fault(("or", (("not", ("or", None)), None))), ("parts", 2))
        self.assertEqual(formula_fault(("and", (("row", "x", ()), None))), ("table", 1))

    def test_a_node_comes_before_its_parts(self):
        self.assertEqual(formula_fault(("and", (None,) * 9)), ("parts", 0))
        self.assertEqual(formula_fault(("not", ("and", [("or", None)] * 9))), ("parts", 1))

    def test_parts(self):
        for word in ("and", "or"):
            for parts in no_sequences() + [(TRUE,) * 9, [TRUE] * 10]:
                self.assertEqual(formula_fault((word, parts)), ("parts", 0))
            for many in range(9):
                self.assertIsNone(formula_fault((word, (TRUE,) * many)))

    def test_many_nodes(self):
        def bush(many):
            """A formula of 56 to 64 nodes, with 7 parts."""
            return ("and", (("or", (TRUE,) * 8),) * 6 + (("or", (TRUE,) * (many - 56)),))

        self.assertIsNone(formula_fault(bush(59)))
        self.assertIsNone(formula_fault(bush(60)))
        self.assertEqual(formula_fault(bush(61)), ("many", 60))
        self.assertEqual(formula_fault(("and", bush(60)[1] + (None,))), ("many", 60))
        self.assertEqual(formula_fault(("and", (None,) + bush(60)[1])), ("node", 1))
        self.assertEqual(formula_fault(("and", bush(59)[1] + (None,))), ("node", 59))

    def test_many_comes_ahead_of_deep(self):
        tall = ("or", (TRUE,) * 8)
        chain = nested(12, None)
        # nodes: 1 + 5 * 9 + 3 = 49, then the chain lies 2 to 13 deep and has the numbers 49 to 60
        self.assertEqual(formula_fault(("and", (tall,) * 5 + (("or", (TRUE,) * 2), chain))), ("many", 60))
        self.assertEqual(formula_fault(("and", (tall,) * 5 + (("or", (TRUE,)), chain))), ("deep", 59))

    def test_deep(self):
        for inner in (TRUE, ROW, ("same", A, B)):
            self.assertIsNone(formula_fault(nested(12, inner)))
            self.assertEqual(formula_fault(nested(13, inner)), ("deep", 12))
        self.assertEqual(formula_fault(nested(13, None)), ("deep", 12))
        self.assertEqual(formula_fault(nested(12, None)), ("node", 11))
        self.assertEqual(formula_fault(nested(500, TRUE)), ("deep", 12))
        self.assertEqual(formula_fault(("and", (TRUE, nested(12, TRUE)))), ("deep", 13))
        self.assertEqual(formula_fault(("or", (nested(11, TRUE), nested(11, None)))), ("node", 22))

    def test_a_formula_that_holds_itself(self):
        formula = ["and", []]
        formula[1].append(formula)
        self.assertEqual(formula_fault(formula), ("deep", 12))
        formula = ["and", []]
        formula[1].extend([TRUE] * 7 + [formula])
        self.assertEqual(formula_fault(formula), ("many", 60))

    def test_row_nodes(self):
        self.assertIsNone(formula_fault(("and", (ROW,) * 8)))
        self.assertEqual(formula_fault(("or", (("and", (ROW,) * 8), ROW))), ("rows", 10))
        self.assertEqual(formula_fault(("or", (("and", (ROW,) * 8), ("row", None, None)))), ("rows", 10))
        self.assertEqual(formula_fault(("or", (("and", (ROW,) * 8), ("row", "r")))), ("node", 10))
        self.assertEqual(formula_fault(("or", (("and", (ROW,) * 7 + (TRUE,)), ROW, TRUE, ("not", ROW)))), ("rows", 13))

    def test_table(self):
        for name in no_names() + ["x", "rs", "t"]:
            self.assertEqual(formula_fault(("row", name, None)), ("table", 0))

    def test_terms(self):
        for terms in no_sequences() + [(), (A, A), [A, B, A]]:
            self.assertEqual(formula_fault(("row", "r", terms)), ("terms", 0))
        self.assertEqual(formula_fault(("row", "s", (A,))), ("terms", 0))

    def test_term(self):
        wrong = [(), ("var",), ("var", 0, 0), ("var", 2), ("var", -1), ("num", -1), ("num", 64), ("vars", 0), ("", 0),
                 (None, 0), (["var"], 0), (True, 0), "va", ("Var", 0), (0, "var")]
        wrong += [("var", thing) for thing in no_integers()] + [("num", thing) for thing in no_integers()]
        for term in no_sequences() + wrong:
            self.assertEqual(formula_fault(("row", "r", (term,))), ("term", 0))
            self.assertEqual(formula_fault(("not", ("row", "s", [A, term]))), ("term", 1))
            self.assertEqual(formula_fault(("same", term, A)), ("term", 0))
            self.assertEqual(formula_fault(("less", A, term)), ("term", 0))
            self.assertEqual(formula_fault(("and", (TRUE, ["same", term, term]))), ("term", 2))
        self.assertEqual(fault(widths=(), formula=("same", A, A)), ("term", 0))

    def test_outside(self):
        self.assertIsNone(formula_fault(("row", "s", (A, B))))
        self.assertIsNone(formula_fault(("row", "s", (B, B))))
        self.assertEqual(formula_fault(("row", "s", (B, A))), ("outside", 0))
        self.assertIsNone(formula_fault(("row", "r", (("num", 3),))))
        self.assertEqual(formula_fault(("row", "r", (("num", 4),))), ("outside", 0))
        self.assertEqual(formula_fault(("row", "r", (("num", 63),))), ("outside", 0))
        self.assertEqual(fault(widths=(5,), formula=("row", "r", (A,))), ("outside", 0))
        self.assertIsNone(fault(widths=(3,), formula=("row", "r", (A,))))

    def test_terms_are_looked_at_one_by_one(self):
        self.assertEqual(formula_fault(("row", "s", (("num", 4), None))), ("outside", 0))
        self.assertEqual(formula_fault(("row", "s", (None, ("num", 4)))), ("term", 0))
        self.assertEqual(formula_fault(("row", "s", (A, ("num", 2)))), ("outside", 0))

    def test_comparisons_have_no_columns(self):
        self.assertIsNone(fault(widths=(64, 2), formula=("less", A, ("num", 63))))


class TestKinds(unittest.TestCase):
    def test_right_kinds(self):
        for kind in (("all",), ("count",), ("any",), ("sum", (0, 1000)), ("first", 0, (0, 0), ()),
                     ("first", 32768, (-1000, 1000), (0, 1)), ["first", 1, [1, 1], [1]]):
            self.assertIsNone(fault(kind=kind))

    def test_no_kind(self):
        wrong = [(), ("all", 1), ("al",), ("All",), ("count", ()), ("any", 1), ("sum",), ("sum", (1, 1), 1), ("first",),
                 ("first", 1, (0, 0)), ("first", 1, (0, 0), (), ()), (None,), (["all"],), ({},), (True,), (b"all",),
                 "all", (("all",),), ("",)]
        for kind in no_sequences() + wrong:
            self.assertEqual(fault(kind=kind), ("kind", 0))

    def test_sum(self):
        for weights in no_sequences() + [(), (1,), (1, 1, 1), (-1, 0), (0, 1001), (True, 0)]:
            self.assertEqual(fault(kind=("sum", weights)), ("kind", 1))
        for thing in no_integers():
            self.assertEqual(fault(kind=("sum", [1, thing])), ("kind", 1))

    def test_first(self):
        for many in no_integers() + [-1, 32769]:
            self.assertEqual(fault(kind=("first", many, None, None)), ("kind", 1))
        for order in no_sequences() + [(), (1,), (1, 1, 1), (-1001, 0), (0, 1001), (True, 0), (0, None)]:
            self.assertEqual(fault(kind=("first", 1, order, None)), ("kind", 2))
        for groups in no_sequences() + [(1, 0), (0, 0), (1, 1), (2,), (-1,), (0, 1, 2), (True,), (False, 1), (0, None),
                                        [[0]], (0.0,), (Odd(),)]:
            self.assertEqual(fault(kind=("first", 1, (0, 0), groups)), ("kind", 3))
        self.assertEqual(fault(widths=(), kind=("first", 1, (), (0,))), ("kind", 3))


if __name__ == "__main__":
    unittest.main()
