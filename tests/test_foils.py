"""Tests of fewfetches.foils: 14.1 to 14.4."""

import unittest

from fewfetches.deciding import decided
from fewfetches.foils import Couple, fill_rows, find_foil, two_stores
from fewfetches.kinds import is_right, plain_answer
from fewfetches.knowledge import Known
from fewfetches.formulas import point_worth
from fewfetches.questions import Question
from fewfetches.relevant import counts_open, determined
from fewfetches.stores import Store, Table
from tests.helpers import raised, rows_of, unchanged
from tests.makers import (WORDS, all_known, all_points_of, laid_line, plain_rows, promised, small_stores,
                          with_names)
from tests.onetable import ALL, ANY, A, COUNT_BOTH, NOTHING, ROW, STORE, TABLES, name

LAYERS = Store([Table("t", [laid_line("p-g-", "01/23"), laid_line("ppp-", "02/13", "0/1/2/3")])])


def places(store):
    """The places of all pages at their addresses."""
    return [entry[:3] + (entry[3].place,) for entry in store.each_entry()]


class TestFillRows(unittest.TestCase):
    def test_by_hand(self):
        filled = unchanged(self, fill_rows, STORE, NOTHING, [("t", (0,), True), ("t", (1,), False)])
        self.assertEqual(filled, Store([Table("t", [laid_line("pgp-", "01/23", "02/13")])]))
        self.assertEqual(fill_rows(STORE, NOTHING, ()), STORE)
        known = with_names(STORE, NOTHING, [name(0, 0)])
        self.assertEqual(fill_rows(STORE, known, (("t", (3,), False),)),
                         Store([Table("t", [laid_line("-ppg", "01/23", "02/13")])]))

    def test_first_unknown_layer(self):
        known = with_names(LAYERS, Known(LAYERS.shape), [("t", 0, 0, (0,))])
        filled = fill_rows(LAYERS, known, [("t", (1,), False), ("t", (2,), True)])
        self.assertEqual(filled, Store([Table("t", [laid_line("p-p-", "01/23"),
                                                    laid_line("pgp-", "02/13", "0/1/2/3")])]))

    def test_a_row_that_stands_twice(self):
        for truths in ((True, False), (False, True), (True, False, True)):
            filled = fill_rows(STORE, NOTHING, [("t", (3,), truth) for truth in truths])
            self.assertEqual(filled.value("t", (3,)), truths[-1])

    def test_known_row(self):
        known = with_names(STORE, NOTHING, [name(0, 0)])
        for row in ((0,), (1,)):
            told = raised(fill_rows, STORE, known, [("t", (3,), True), ("t", row, True), ("t", (0,), False)])
            self.assertEqual(told, ("KnownRow", "t", row))
        known = with_names(LAYERS, Known(LAYERS.shape), [("t", 0, 0, (0,))])
        self.assertEqual(raised(fill_rows, LAYERS, known, [("t", (0,), False)]), ("KnownRow", "t", (0,)))
        self.assertIsNone(raised(fill_rows, LAYERS, known, [("t", (1,), False)]))

    def test_random(self):
        for chance, question, store, known in small_stores(161, 80):
            rows = [(table, row) for table, widths, _ in store.shape for row in rows_of(widths)]
            unknown = [couple for couple in rows if known.row_worth(*couple) is None]
            fills = [couple + (chance.random() < 0.5,) for couple in unknown if chance.random() < 0.5]
            filled = fill_rows(store, known, fills)
            self.assertEqual(places(filled), places(store))
            self.assertTrue(all(filled.holds(entry) for entry in known.entries))
            truths = {fill[:2]: fill[2] for fill in fills}
            for couple in rows:
                self.assertEqual(filled.value(*couple), truths.get(couple, store.value(*couple)))


class TestTwoStores(unittest.TestCase):
    def check(self, question, store, known):
        told = unchanged(self, two_stores, question, store, known)
        self.assertEqual(told is None, determined(question, known) is not None)
        if told is None:
            return
        self.assertIsInstance(told, Couple)
        self.assertTrue(counts_open(question, known, told.point))
        self.assertIsInstance(told.point, tuple)
        for made in (told.one, told.other):
            self.assertEqual(places(made), places(store))
            self.assertTrue(all(made.holds(entry) for entry in known.entries))
        self.assertTrue(point_worth(question, told.one, told.point))
        self.assertFalse(point_worth(question, told.other, told.point))
        self.assertNotEqual(plain_answer(question, told.one), plain_answer(question, told.other))

    def test_by_hand(self):
        for kind in (("all",), ("count",), ("sum", (0,)), ("first", 1, (1,), ()), ("first", 0, (1,), ())):
            for formula in (ROW, ("not", ROW), ("and", ())):
                self.check(Question(TABLES, (4,), formula, kind), STORE, NOTHING)
                self.check(Question(TABLES, (4,), formula, kind), STORE, with_names(STORE, NOTHING, [name(0, 2)]))
                self.check(Question(TABLES, (4,), formula, kind), STORE, all_known(STORE))
        self.check(Question(TABLES, (), ("row", "t", (("num", 1),)), ("count",)), STORE, NOTHING)

    def test_counts_that_other_points_could_make_up_for(self):
        """One filling of the rows of the first point would let another point hold instead of it."""
        tables = (("r", (3,)), ("t", (3,)))
        store = Store([Table("r", [laid_line("-p-", "012")]), Table("t", [laid_line("--p", "012")])])
        r, t = (lambda at: ("row", "r", (at,))), (lambda at: ("row", "t", (at,)))
        one = ("same", A, ("num", 0))
        parts = [("or", (("and", (one, ("or", (r(("num", 0)), t(("num", 0)))))), ("and", (("less", ("num", 0), A),
                 t(("num", 0)))))), ("or", (("and", (one, r(("num", 0)), ("not", t(("num", 0))))), ("and",
                 (("less", ("num", 0), A), ("not", t(("num", 0))))))),
                 ("and", (("or", (r(A), r(("num", 1)))), ("or", (t(A), t(("num", 2))))))]
        for formula in parts:
            for kind in (("count",), ("sum", (3,))):
                self.check(Question(tables, (3,), formula, kind), store, Known(store.shape))

    def test_no_factor_comes_first(self):
        for known in (NOTHING, all_known(STORE)):
            self.assertEqual(raised(two_stores, ANY, STORE, known), ("NoFactor", "any"))
            self.assertEqual(raised(two_stores, COUNT_BOTH, STORE, known), ("NoFactor", "both"))

    def test_random(self):
        seen = 0
        for chance, question, store, known in small_stores(162, 300, ("all", "first", "count", "sum"), (0, 0.3, 0.8)):
            if promised(question):
                self.check(question, store, known)
                seen += determined(question, known) is None
        self.assertGreater(seen, 60)


class TestFindFoil(unittest.TestCase):
    def check(self, question, store, known, answer):
        foil = unchanged(self, find_foil, question, store, known, answer)
        if foil is not None:
            self.assertEqual(places(foil), places(store))
            self.assertTrue(all(foil.holds(entry) for entry in known.entries))
            self.assertFalse(is_right(question, foil, answer))
        return foil

    def test_by_hand(self):
        right = ((1,), (2,))
        self.assertIsNotNone(self.check(ALL, STORE, NOTHING, right))
        self.assertIsNotNone(self.check(ALL, STORE, NOTHING, ()))
        self.assertIsNone(self.check(ALL, STORE, all_known(STORE), right))
        self.assertIsNotNone(self.check(ALL, STORE, all_known(STORE), ()))
        self.assertIsNotNone(self.check(Question(TABLES, (4,), ROW, ("count",)), STORE, NOTHING, 2))
        self.assertIsNotNone(self.check(Question(TABLES, (4,), ROW, ("count",)), STORE, all_known(STORE), 3))
        self.assertIsNone(self.check(Question(TABLES, (4,), ROW, ("count",)), STORE, all_known(STORE), 2))

    def test_any(self):
        half = with_names(STORE, NOTHING, [name(0, 0)])
        self.assertIsNone(self.check(ANY, STORE, half, (1,)))
        for answer in ((0,), (2,), (3,), None):
            self.assertIsNotNone(self.check(ANY, STORE, half, answer))
        for answer in ((0,), (1,), (2,), (3,), None):
            self.assertIsNotNone(self.check(ANY, STORE, NOTHING, answer))
        none = Store([Table("t", [laid_line("----", "01/23")])])
        self.assertIsNone(self.check(ANY, none, all_known(none), None))
        self.assertIsNotNone(self.check(ANY, none, all_known(none), (0,)))
        both = Question(TABLES, (4,), ("and", (ROW, ("not", ROW))), ("any",))
        self.assertIsNone(self.check(both, STORE, NOTHING, None))
        self.assertIsNotNone(self.check(both, STORE, NOTHING, (1,)))

    def test_no_factor(self):
        for known in (NOTHING, all_known(STORE)):
            for answer in (0, 4):
                self.assertEqual(raised(find_foil, COUNT_BOTH, STORE, known, answer), ("NoFactor", "both"))

    def test_random(self):
        seen = {True: 0, False: 0}
        for chance, question, store, known in small_stores(163, 250, WORDS, (0, 0.3, 0.8, 1)):
            if question.kind[0] == "any":
                worths = {point: decided(question, known, point) for point in all_points_of(question)}
                for answer in all_points_of(question) + [None]:
                    foil = self.check(question, store, known, answer)
                    never = set(worths.values()) == {False} if answer is None else worths[answer] is True
                    self.assertEqual(foil is None, never)
                    seen[foil is None] += 1
            elif promised(question):
                told = determined(question, known)
                for other in (store, store.with_marks(marks_of_others(chance, question, store))):
                    answer = plain_answer(question, other)
                    foil = self.check(question, store, known, answer)
                    self.assertEqual(foil is None, told == (answer,))
                    seen[foil is None] += 1
        self.assertGreater(min(seen.values()), 50)


def marks_of_others(chance, question, store):
    """Changes of the marks of some rows that the question asks."""
    rows = sorted(set().union(*[plain_rows(question.formula, point) for point in all_points_of(question)]))
    return [(table, 0, row, chance.choice(["put", "gone"])) for table, row in rows if chance.random() < 0.3]


class TestCouple(unittest.TestCase):
    def test_equal(self):
        told = Couple(STORE, LAYERS, (1,))
        self.assertEqual((told.one, told.other, told.point), (STORE, LAYERS, (1,)))
        self.assertTrue(told == Couple(STORE, LAYERS, (1,)))
        for other in (Couple(LAYERS, LAYERS, (1,)), Couple(STORE, STORE, (1,)), Couple(STORE, LAYERS, (2,)), None,
                      (STORE, LAYERS, (1,))):
            self.assertFalse(told == other)


if __name__ == "__main__":
    unittest.main()
