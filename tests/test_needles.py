"""Tests of fewfetches.needles: 14.1, 14.10 and 14.11."""

import unittest

from fewfetches.engine import run_engine
from fewfetches.foils import find_foil
from fewfetches.formulas import point_worth
from fewfetches.kinds import is_right
from fewfetches.knowledge import Known
from fewfetches.layers import Layer
from fewfetches.needles import Needle
from fewfetches.questions import Question
from fewfetches.relevant import determined
from fewfetches.stores import Store, Table
from tests.helpers import no_integers, no_sequences, page_of, raised, rows_of, seeded
from tests.makers import all_points_of, laid_line, plain_row, plain_rows, with_names

A, B = ("var", 0), ("var", 1)
TABLES = (("r", (4,)), ("s", (3, 4)), ("u", (3,)))
R, S = ("row", "r", (A,)), ("row", "s", (B, A))


def made(formula=("and", (R, ("not", S))), widths=(3, 2), kind=("any",), tables=TABLES):
    return Question(tables, widths, formula, kind)


def one(row, mark=None):
    return page_of([row], [(row, mark)] if mark else [])


class TestBadFoe(unittest.TestCase):
    def check(self, what, *given):
        self.assertEqual(raised(Needle, *given), what and ("BadFoe", what))

    def test_indexes(self):
        for thing in no_sequences() + [(), (1, 1), (1, 1, 1, 1), (0, 1, 1), (1, 4, 1)]:
            self.check("indexes", made(), thing)
        for thing in no_integers():
            self.check("indexes", made(), (1, thing, 1))
        self.check(None, made(), [3, 1, 2])

    def test_kind(self):
        for kind in (("all",), ("first", 1, (0, 0), ()), ("first", 0, (0, 0), ()), ("count",), ("sum", (0, 0))):
            self.check("kind", made(kind=kind), (1, 1, 1))

    def test_formula(self):
        for formula in (("and", ()), ("or", (R,)), ("not", ("not", R)), ("same", A, B), ("and", (R, ("less", A, B))),
                        ("and", (R, ("and", (S,)))), ("not", ("and", (R,)))):
            self.check("formula", made(formula), (1, 1, 1))
        for formula in (R, ("not", R), ("and", (R,)), ("and", (R, S, ("not", ("row", "u", (A,)))))):
            self.check(None, made(formula), (1, 1, 1))

    def test_twice(self):
        self.check("twice", made(("and", (R, R))), (1, 1, 1))
        self.check("twice", made(("and", (R, S, ("not", ("row", "r", (B,)))))), (1, 1, 1))

    def test_no_widths_are_asked(self):
        self.check(None, made(("row", "u", (("num", 1),))), (3, 3, 3))
        self.check(None, made(widths=(1, 1)), (3, 3, 3))
        self.check(None, made(("row", "u", (("num", 1),)), ()), (3, 3, 3))

    def test_order(self):
        bad = ("and", (R, R, ("same", A, B)))
        self.check("indexes", made(bad, kind=("all",)), (1, 1))
        self.check("kind", made(bad, kind=("all",)), (1, 1, 1))
        self.check("formula", made(bad), (1, 1, 1))
        self.check("twice", made(("and", (R, R))), (1, 1, 1))


class TestByHand(unittest.TestCase):
    def test_attributes(self):
        needle = Needle(made(), [2, 1, 3])
        self.assertEqual((needle.question, needle.indexes, needle.reads), (made(), (2, 1, 3), ()))
        self.assertEqual(needle.shape, (("r", (4,), (2,)), ("s", (3, 4), (1,)), ("u", (3,), (3,))))
        self.assertEqual((needle.least, needle.answer_point()), (3, (0, 0)))

    def test_least(self):
        for formula, widths, least in (((R), (3, 2), 3), (S, (3, 2), 6), (("and", (R, S)), (3, 2), 3),
                                       (("row", "s", (A, A)), (3, 2), 3), (("row", "s", (("num", 1), B)), (3, 2), 2),
                                       (("row", "u", (("num", 1),)), (3, 2), 1), (("not", S), (2, 3), 6),
                                       (("and", (S, ("row", "u", (("num", 1),)))), (3, 2), 1),
                                       (("row", "u", (("num", 1),)), (), 1)):
            self.assertEqual(Needle(made(formula, widths), (1, 1, 1)).least, least)

    def test_reads(self):
        """"r" is plain, "s" denied; the points are (a, b) with 3 and 2 values."""
        needle = Needle(made(), (2, 1, 1))
        self.assertEqual(needle.read("r", 0, 0, (1,)), one((1,)))
        self.assertEqual(needle.answer_point(), (0, 0))
        self.assertEqual(needle.read("s", 0, 0, (0, 0)), one((0, 0), "put"))
        self.assertEqual(needle.answer_point(), (0, 1))
        self.assertEqual(needle.read("r", 0, 1, (1,)), one((1,)))
        self.assertEqual(needle.read("s", 0, 0, (2, 3)), one((2, 3), "put"))
        self.assertEqual(needle.read("r", 0, 0, (3,)), one((3,)))
        self.assertEqual(needle.read("u", 0, 0, (0,)), one((0,)))
        self.assertEqual(needle.read("r", 0, 1, (0,)), one((0,)))
        self.assertEqual(needle.answer_point(), (2, 0))
        self.assertEqual(needle.enough_names(), (("r", 0, 0, (2,)), ("s", 0, 0, (0, 2))))
        # the points left are (2, 0) and (2, 1): the row of both settles
        self.assertEqual(needle.read("r", 0, 1, (2,)), one((2,), "put"))
        self.assertEqual(needle.answer_point(), (2, 0))
        self.assertEqual(needle.read("r", 0, 0, (2,)), one((2,), "put"))
        self.assertEqual(needle.read("s", 0, 0, (0, 2)), one((0, 2)))
        self.assertEqual(needle.read("s", 0, 0, (1, 2)), one((1, 2), "put"))
        self.assertEqual(needle.read("s", 0, 0, (0, 0)), one((0, 0), "put"))
        self.assertEqual(needle.read("r", 0, 0, (0,)), one((0,)))
        self.assertEqual(needle.reads, (
            ("r", 0, 0, (1,)), ("s", 0, 0, (0, 0)), ("r", 0, 1, (1,)), ("s", 0, 0, (2, 3)), ("r", 0, 0, (3,)),
            ("u", 0, 0, (0,)), ("r", 0, 1, (0,)), ("r", 0, 1, (2,)), ("r", 0, 0, (2,)), ("s", 0, 0, (0, 2)),
            ("s", 0, 0, (1, 2)), ("r", 0, 0, (0,))))
        self.assertEqual(needle.answer_point(), (2, 0))

    def test_a_row_that_every_point_asks(self):
        question = made(("and", (R, ("row", "u", (("num", 1),)))))
        needle = Needle(question, (1, 1, 1))
        self.assertEqual(needle.read("u", 0, 0, (1,)), one((1,), "put"))
        self.assertEqual(needle.answer_point(), (0, 0))
        self.assertEqual(needle.read("r", 0, 0, (0,)), one((0,), "put"))
        self.assertEqual(needle.read("r", 0, 0, (1,)), one((1,)))
        self.assertTrue(point_worth(question, needle.now_store(), (0, 1)))

    def test_no_variables(self):
        needle = Needle(made(("not", ("row", "u", (("num", 1),))), ()), (1, 1, 2))
        self.assertEqual((needle.answer_point(), needle.enough_names()), ((), (("u", 0, 0, (1,)),)))
        self.assertEqual(needle.read("u", 0, 1, (0,)), one((0,), "put"))
        self.assertEqual(needle.read("u", 0, 1, (1,)), one((1,)))
        self.assertEqual(needle.read("u", 0, 0, (1,)), one((1,)))

    def test_the_same_row_by_several_indexes(self):
        needle = Needle(made(R), (3, 1, 1))
        for index in range(3):
            self.assertEqual(needle.read("r", 0, index, (0,)), one((0,)))
        self.assertEqual(needle.answer_point(), (1, 0))
        needle.read("r", 0, 2, (2,))
        for index in (1, 0, 2):
            self.assertEqual(needle.read("r", 0, index, (1,)), one((1,), "put"))
        self.assertEqual(needle.answer_point(), (1, 0))

    def test_refused_reads(self):
        needle = Needle(made(R), (2, 1, 1))
        store = Store([Table("r", [laid_line("----", "0123", "0123")])])
        for given, error in ((("q", 7, 7, 7), ("NoTable", "q")), (("r", 1, 7, 7), ("NoLayer", 1)),
                             (("r", False, 0, (0,)), ("NoLayer", False)), (("r", 0, 2, 7), ("NoIndex", 2)),
                             (("r", 0, True, (0,)), ("NoIndex", True)), (("r", 0, 0, (4,)), ("BadRow", (4,))),
                             (("r", 0, 0, (0, 1)), ("BadRow", (0, 1))), (("r", 0, 1, [False]), ("BadRow", [False]))):
            self.assertEqual(raised(needle.read, *given), error)
            self.assertEqual(raised(store.read, *given), error)
        self.assertEqual((needle.reads, needle.answer_point()), ((), (0, 0)))
        self.assertEqual(needle.read("r", 0, 0, [0]), one((0,)))
        self.assertIs(needle.read("r", 0, 0, (0,)), needle.read("r", 0, 0, [0]))


def random_needle(chance):
    formulas = [R, ("not", R), ("and", (R, S)), ("and", (("not", S), R)), ("and", (S, ("not", R))), ("not", S),
                ("row", "s", (A, A)), ("and", (("row", "u", (B,)), ("not", R))),
                ("and", (("row", "s", (("num", 1), A)), ("not", ("row", "u", (("num", 0),))))),
                ("and", (R, S, ("not", ("row", "u", (A,)))))]
    question = made(chance.choice(formulas), (chance.choice([2, 3]), chance.choice([1, 2, 3])))
    return question, Needle(question, [chance.randint(1, 3) for _ in range(3)])


def node_rows(question, point):
    """The rows of the point: table, row, whether the table stands plain."""
    nodes = question.formula[1] if question.formula[0] == "and" else (question.formula,)
    return [plain_row(node if node[0] == "row" else node[1], point) + (node[0] == "row",) for node in nodes]


def plain_now(question, shape, point):
    """The store with one row in each page in which the rows of this point alone let the formula hold."""
    plain = {name: stands for name, _, stands in node_rows(question, point)}
    asked = {(name, row) for name, row, _ in node_rows(question, point)}
    tables = []
    for name, widths, counts in shape:
        pages = []
        for row in rows_of(widths):
            put = name in plain and plain[name] == ((name, row) in asked)
            pages.append(one(row, "put" if put else None))
        tables.append(Table(name, [Layer(widths, [pages] * counts[0])]))
    return Store(tables)


class TestRandom(unittest.TestCase):
    def test_against_the_words(self):
        chance = seeded(181)
        settled_many = 0
        for _ in range(80):
            question, needle = random_needle(chance)
            untouched = all_points_of(question)
            settled = None
            returned, order = {}, []
            for step in range(chance.choice([4, 10, 25])):
                name, widths, counts = chance.choice(needle.shape)
                index, row = chance.randrange(counts[0]), chance.choice(rows_of(widths))
                left = [point for point in untouched if (name, row) not in plain_rows(question.formula, point)]
                if settled is None and not left:
                    settled = untouched[0]
                untouched = left if settled is None else untouched
                page = needle.read(name, 0, index, row)
                point = settled if settled is not None else untouched[0]
                self.assertEqual(needle.answer_point(), point)
                if (name, index, row) not in returned:
                    returned[(name, index, row)] = page
                    order.append((name, 0, index, row))
                self.assertEqual((page, needle.reads), (returned[(name, index, row)], tuple(order)))
                now = needle.now_store()
                self.assertEqual(now, plain_now(question, needle.shape, point))
                self.assertTrue(all(now.holds(key[:1] + (0,) + key[1:2] + (held,)) for key, held in returned.items()))
            settled_many += settled is not None
        self.assertGreater(settled_many, 20)

    def test_points_that_hold_and_enough_names(self):
        chance = seeded(182)
        for _ in range(60):
            question, needle = random_needle(chance)
            for _ in range(chance.randrange(6)):
                name, widths, counts = chance.choice(needle.shape)
                needle.read(name, 0, 0, chance.choice(rows_of(widths)))
            before = needle.reads
            point, now = needle.answer_point(), needle.now_store()
            rows = plain_rows(question.formula, point)
            for other in all_points_of(question):
                same = plain_rows(question.formula, other) == rows
                self.assertEqual(point_worth(question, now, other), same)
            names = needle.enough_names()
            self.assertEqual(names, tuple(sorted((name, 0, 0, row) for name, row in rows)))
            told = determined(question, with_names(now, Known(now.shape), names))
            self.assertIsNotNone(told[0])
            self.assertTrue(is_right(question, now, told[0]))
            self.assertEqual((needle.reads, needle.now_store()), (before, now))

    def test_lower_side(self):
        """No answer is right in all stores before least - 1 + (number of row nodes) unlike pages were read."""
        chance = seeded(183)
        for _ in range(40):
            question, needle = random_needle(chance)
            many = len(node_rows(question, all_points_of(question)[0]))
            known = Known(needle.shape)
            reads = [(name, 0, index, row) for name, widths, counts in needle.shape for index in range(counts[0])
                     for row in rows_of(widths)]
            chance.shuffle(reads)
            asked = set().union(*[plain_rows(question.formula, point) for point in all_points_of(question)])
            for read in [read for read in reads if (read[0], read[3]) in asked]:
                answers = all_points_of(question) + [None]
                foils = [find_foil(question, needle.now_store(), known, answer) for answer in answers]
                if None in foils:
                    self.assertGreaterEqual(known.many, needle.least - 1 + many)
                    break
                known.add(read[:3] + (needle.read(*read),))

    def test_engine(self):
        chance = seeded(184)
        for _ in range(40):
            question, needle = random_needle(chance)
            told = run_engine(question, needle, Known(needle.shape))
            self.assertTrue(is_right(question, needle.now_store(), told.answer))
            self.assertIsNotNone(told.answer)
            many = len(node_rows(question, (0, 0)))
            self.assertGreaterEqual(len(needle.reads), needle.least - 1 + many)


if __name__ == "__main__":
    unittest.main()
