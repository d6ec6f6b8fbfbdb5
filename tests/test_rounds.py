"""Tests of fewfetches.rounds: 12.1 to 12.4."""

import unittest

from fewfetches.deciding import decided, hangs_on
from fewfetches.knowledge import Known
from fewfetches.questions import Question
from fewfetches.relevant import counts_open, determined, first_open
from fewfetches.rounds import most_pages, next_round, round_at
from tests.helpers import only_tuples, page_of, rows_of, seeded, unchanged
from tests.makers import (all_points_of, name_of, plain_rows, random_question, random_store, some_known)

A, B = ("var", 0), ("var", 1)
R, S = ("row", "r", (A,)), ("row", "s", (A,))
TABLES = (("r", (3,)), ("s", (3,)))
SHAPE = (("r", (3,), (2, 3)), ("s", (3,), (1,)))


def made(formula, kind=("all",), widths=(3,)):
    return Question(TABLES, widths, formula, kind)


class TestByHand(unittest.TestCase):
    def test_one_row(self):
        question = made(R)
        self.assertEqual(round_at(question, Known(SHAPE), (1,)), (("r", 0, 0, (1,)), ("r", 0, 1, (1,))))
        self.assertEqual(next_round(question, Known(SHAPE)), (("r", 0, 0, (0,)), ("r", 0, 1, (0,))))
        known = Known(SHAPE, [("r", 0, 1, page_of([(0,), (1,)], [((0,), "put")]))])
        self.assertEqual(round_at(question, known, (0,)), ())
        self.assertEqual(round_at(question, known, (1,)), (("r", 1, 0, (1,)), ("r", 1, 1, (1,)), ("r", 1, 2, (1,))))
        self.assertEqual(round_at(question, known, (2,)), (("r", 0, 0, (2,)), ("r", 0, 1, (2,))))
        self.assertEqual(next_round(question, known), round_at(question, known, (1,)))
        known.add(("r", 1, 2, page_of(rows_of((3,)))))
        self.assertEqual(round_at(question, known, (1,)), ())

    def test_rows_that_the_point_hangs_on(self):
        question = made(("and", (S, R)))
        both = (("r", 0, 0, (1,)), ("r", 0, 1, (1,)), ("s", 0, 0, (1,)))
        self.assertEqual(round_at(question, Known(SHAPE), (1,)), both)
        known = Known(SHAPE, [("s", 0, 0, page_of([(1,)], [((1,), "put")])), ("s", 0, 0, page_of([(2,)], []))])
        self.assertEqual(round_at(question, known, (1,)), both[:2])
        self.assertEqual(round_at(question, known, (2,)), ())
        question = made(("or", (S, ("and", (R, ("not", R))))))
        self.assertEqual(round_at(question, Known(SHAPE), (1,)), both[2:])

    def test_decided_without_pages(self):
        question = made(("or", (R, ("not", R))))
        self.assertEqual((round_at(question, Known(SHAPE), (1,)), next_round(question, Known(SHAPE))), ((), ()))
        self.assertEqual(next_round(made(R, ("first", 0, (1,), ())), Known(SHAPE)), ())

    def test_first_point_of_the_walk(self):
        question = made(S, ("first", 1, (1,), ()))
        self.assertEqual(next_round(question, Known(SHAPE)), (("s", 0, 0, (2,)),))
        known = Known(SHAPE, [("s", 0, 0, page_of([(2,)]))])
        self.assertEqual(next_round(question, known), (("s", 0, 0, (1,)),))
        known = Known(SHAPE, [("s", 0, 0, page_of([(2,)], [((2,), "put")]))])
        self.assertEqual(next_round(question, known), ())

    def test_most_pages(self):
        table = [(R, 3), (S, 1), (("and", (R, S)), 4), (("and", (R, R, S)), 4), (("less", A, ("num", 2)), 0), (("or", ()), 0),
                 (("and", (R, ("row", "r", (("num", 1),)), S)), 7), (("or", (R, ("not", R))), 3),
                 (("and", (("row", "r", (("num", 1),)), ("row", "r", (("num", 1),)))), 3)]
        for formula, most in table:
            self.assertEqual(most_pages(made(formula), SHAPE), most, formula)
        # the rows of the two nodes are unlike at no point of a single variable of width 1
        question = made(("and", (R, ("row", "r", (("num", 0),)))), ("all",), (1,))
        self.assertEqual(most_pages(question, SHAPE), 3)
        question = made(("and", (R, ("row", "r", (B,)))), ("all",), (2, 2))
        self.assertEqual(most_pages(question, SHAPE), 6)
        self.assertEqual(most_pages(made(("row", "r", (("num", 0),)), ("all",), ()), SHAPE), 3)

    def test_greatest_number_of_any_layer(self):
        for counts, most in (((1,), 1), ((1, 3, 2), 3), ((2, 1), 2), ((1, 1, 3), 3), ((3, 1, 1), 3)):
            self.assertEqual(most_pages(made(S), (("r", (3,), (1,)), ("s", (3,), counts))), most)


class TestRandom(unittest.TestCase):
    def test_rounds(self):
        chance = seeded(121)
        for _ in range(120):
            question = random_question(chance)
            store = random_store(chance, question)
            known = some_known(chance, store, chance.choice([0, 0.3, 0.6, 0.9]))
            counts = {name: counts for name, _, counts in store.shape}
            most = most_pages(question, store.shape)
            sizes = [sum(max(counts[name]) for name, _ in plain_rows(question.formula, point))
                     for point in all_points_of(question)]
            self.assertEqual(most, max(sizes))
            for point in all_points_of(question):
                told = unchanged(self, round_at, question, known, point)
                expected = []
                for name, row in hangs_on(question, known, point):
                    layer = known.first_unknown(name, row)
                    expected += [(name, layer, index, row) for index in range(counts[name][layer])]
                self.assertEqual(told, tuple(expected))
                self.assertEqual(told == (), decided(question, known, point) is not None)
                self.assertTrue(only_tuples(told))
                self.assertLessEqual(len(told), most)
                self.assertFalse(any(known.has(*read) for read in told))
            first = first_open(question, known)
            told = next_round(question, known)
            self.assertEqual(told, () if first is None else round_at(question, known, first))
            self.assertEqual(told == (), determined(question, known) is not None)

    def test_a_page_of_the_round_lies_in_every_set_that_settles(self):
        """[12.1]: sets of pages that determine the answer, made by leaving pages out at random."""
        chance = seeded(122)
        for _ in range(60):
            question = random_question(chance)
            store = random_store(chance, question)
            known = some_known(chance, store, 0.2)
            rest = [entry for entry in store.each_entry() if name_of(entry) not in known.names]
            chance.shuffle(rest)
            for entry in list(rest):
                fewer = [other for other in rest if other != entry]
                if determined(question, with_entries(known, fewer)) is not None:
                    rest = fewer
            for point in all_points_of(question):
                if question.kind[0] != "any" and counts_open(question, known, point):
                    reads = round_at(question, known, point)
                    names = {store.place_of(*read) for read in reads}
                    self.assertTrue(names & {name_of(entry) for entry in rest})

    def test_playing_rounds_ends_with_the_answer(self):
        chance = seeded(123)
        for _ in range(60):
            question = random_question(chance)
            store = random_store(chance, question)
            known = some_known(chance, store, 0.1)
            for _ in range(len(store.page_names) + 1):
                reads = next_round(question, known)
                if not reads:
                    break
                for read in reads:
                    if not known.has(*read):
                        known.add(read[:3] + (store.read(*read),))
            self.assertIsNotNone(determined(question, known))


def with_entries(known, entries):
    more = known.twin()
    for entry in entries:
        more.add(entry)
    return more


if __name__ == "__main__":
    unittest.main()
