"""Tests of fewfetches.relevant: 9.3 to 9.6."""

import unittest

from fewfetches.deciding import decided
from fewfetches.kinds import answer_of, group_of, is_ahead, is_right, plain_answer, walked
from fewfetches.knowledge import Known
from fewfetches.questions import Question
from fewfetches.relevant import check_factor, counts_open, determined, first_open, settled_ahead
from tests.helpers import only_tuples, page_of, raised, rows_of, seeded, unchanged
from tests.makers import (WORDS, all_points_of, filled_store, plain_fillings, plain_holds, plain_rows, random_question,
                          random_store, some_known)

A, B = ("var", 0), ("var", 1)
ROW = ("row", "t", (A,))
SHAPE = (("t", (4,), (1,)),)


def made(kind, formula=ROW, widths=(4,), tables=(("t", (4,)),)):
    return Question(tables, widths, formula, kind)


def knowing(text):
    """Known pages of one row each: for each sign "p" a row that is put, "-" one without a mark, "?" one not known."""
    entries = [("t", 0, 0, page_of([(at,)], [((at,), "put")] if sign == "p" else [])) for at, sign in enumerate(text)
               if sign != "?"]
    return Known((("t", (len(text),), (1,)),), entries)


def all_rows(question):
    return set().union(*[plain_rows(question.formula, point) for point in all_points_of(question)])


def holding_points(question, worths):
    return {point for point in all_points_of(question)
            if plain_holds(question.formula, point, lambda name, row: worths[(name, row)])}


def right_answers(question, holding):
    """All answers that are right if exactly these points hold."""
    if question.kind[0] == "any":
        return holding or {None}
    return {answer_of(question, holding)}


def plain_counts(question, known, point):
    """[9.4] by its words."""
    if decided(question, known, point) is not None:
        return False
    points = all_points_of(question)
    if question.kind[0] == "any":
        return not [other for other in points if decided(question, known, other) is True]
    if question.kind[0] == "first":
        ahead = [other for other in points if group_of(question, other) == group_of(question, point)
                 and is_ahead(question, other, point)]
        worths = [decided(question, known, other) for other in ahead]
        return None not in worths and sum(worths) < question.kind[1]
    return True


def small_cases(seed, many, unknown=8):
    """Questions with known pages of a store, with few unknown rows."""
    chance = seeded(seed)
    for at in range(many):
        question = random_question(chance, WORDS[at % 5])
        store = random_store(chance, question)
        known = some_known(chance, store, chance.choice([0, 0.3, 0.6, 0.8, 0.9, 1]))
        if len([row for row in all_rows(question) if known.row_worth(*row) is None]) <= unknown:
            yield question, store, known


class TestByHand(unittest.TestCase):
    def check(self, kind, text, answer, first, ahead, counting, formula=ROW):
        question, known = made(kind, formula, (len(text),), (("t", (len(text),)),)), knowing(text)
        self.assertEqual(determined(question, known), answer)
        self.assertEqual(first_open(question, known), first)
        self.assertEqual(settled_ahead(question, known), ahead)
        self.assertEqual([point for point in rows_of((len(text),)) if counts_open(question, known, point)], counting)

    def test_all(self):
        self.check(("all",), "p-p-", (((0,), (2,)),), None, ((0,), (2,)), [])
        self.check(("all",), "----", ((),), None, (), [])
        self.check(("all",), "p?p?", None, (1,), ((0,),), [(1,), (3,)])
        self.check(("all",), "????", None, (0,), (), rows_of((4,)))

    def test_count_and_sum(self):
        self.check(("count",), "p-p-", (2,), None, ((0,), (2,)), [])
        self.check(("count",), "----", (0,), None, (), [])
        self.check(("count",), "ppp?", None, (3,), ((0,), (1,), (2,)), [(3,)])
        self.check(("sum", (10,)), "p-p-", (22,), None, ((0,), (2,)), [])
        self.check(("sum", (0,)), "p-p-", (2,), None, ((0,), (2,)), [])
        self.check(("sum", (0,)), "?-p-", None, (0,), (), [(0,)])

    def test_any(self):
        self.check(("any",), "??pp", ((2,),), None, ((2,),), [])
        self.check(("any",), "----", (None,), None, (), [])
        self.check(("any",), "-?-?", None, (1,), (), [(1,), (3,)])
        self.check(("any",), "????", None, (0,), (), rows_of((4,)))

    def test_first(self):
        self.check(("first", 1, (0,), ()), "p???", (((0,),),), None, ((0,),), [])
        self.check(("first", 2, (0,), ()), "p-p?", (((0,), (2,)),), None, ((0,), (2,)), [])
        self.check(("first", 2, (0,), ()), "p-?p", None, (2,), ((0,),), [(2,)])
        self.check(("first", 1, (0,), ()), "-?pp", None, (1,), (), [(1,)])
        self.check(("first", 1, (1,), ()), "???p", (((3,),),), None, ((3,),), [])
        self.check(("first", 9, (1,), ()), "-p-p", (((3,), (1,)),), None, ((3,), (1,)), [])
        self.check(("first", 9, (1,), ()), "?p-p", None, (0,), ((3,), (1,)), [(0,)])

    def test_first_none_asked(self):
        self.check(("first", 0, (0,), ()), "????", ((),), None, (), [])

    def test_groups(self):
        """Two groups of the second variable, each with two points in the order of the first."""
        tables = (("t", (2, 2)),)
        question = Question(tables, (2, 2), ("row", "t", (A, B)), ("first", 1, (0, 0), (1,)))
        shape = (("t", (2, 2), (1,)),)
        known = Known(shape, [("t", 0, 0, page_of([(0, 0)], [((0, 0), "put")]))])
        self.assertEqual((first_open(question, known), settled_ahead(question, known)), ((0, 1), ((0, 0),)))
        self.assertEqual([point for point in rows_of((2, 2)) if counts_open(question, known, point)], [(0, 1)])
        known = Known(shape)
        self.assertEqual([point for point in rows_of((2, 2)) if counts_open(question, known, point)], [(0, 0), (0, 1)])
        self.assertEqual(first_open(question, known), (0, 0))
        known = Known(shape, [("t", 0, 0, page_of([(0, 0)], [])), ("t", 0, 0, page_of([(1, 1)], [((1, 1), "put")])),
                              ("t", 0, 0, page_of([(0, 1)], []))])
        self.assertEqual([point for point in rows_of((2, 2)) if counts_open(question, known, point)], [(1, 0)])
        self.assertEqual((first_open(question, known), settled_ahead(question, known)), ((1, 0), ()))
        known.add(("t", 0, 0, page_of([(1, 0)], [((1, 0), "put")])))
        self.assertEqual(determined(question, known), (((1, 0), (1, 1)),))
        self.assertEqual(settled_ahead(question, known), ((1, 0), (1, 1)))

    def test_determined_ahead_of_any_page(self):
        for kind, answer in ((("all",), ((0,), (1,))), (("count",), 2), (("sum", (5,)), 7), (("any",), (0,)),
                             (("first", 1, (1,), ()), ((1,),)), (("first", 0, (1,), ()), ())):
            for formula in (("less", A, ("num", 2)), ("and", (("less", A, ("num", 2)), ("or", (ROW, ("not", ROW)))))):
                self.assertEqual(determined(made(kind, formula), Known(SHAPE)), (answer,))
                self.assertIsNone(first_open(made(kind, formula), Known(SHAPE)))

    def test_no_variables(self):
        formula = ("row", "t", (("num", 2),))
        for kind, some, none in ((("all",), ((),), ()), (("count",), 1, 0), (("any",), (), None),
                                 (("first", 1, (), ()), ((),), ())):
            question = made(kind, formula, ())
            self.assertEqual((determined(question, knowing("????")), first_open(question, knowing("????"))), (None, ()))
            self.assertTrue(counts_open(question, knowing("????"), ()))
            self.assertEqual(determined(question, knowing("??p?")), (some,))
            self.assertEqual(determined(question, knowing("??-?")), (none,))

    def test_one_answer_though_points_are_open(self):
        x_is = [("same", A, ("num", 0)), ("same", A, ("num", 1))]
        zero = ("row", "t", (("num", 0),))
        formula = ("or", (("and", (zero, x_is[0])), ("and", (("not", zero), x_is[1]))))
        for kind, answer in ((("count",), (1,)), (("sum", (0,)), (1,))):
            question = made(kind, formula, (2,), (("t", (1,)),))
            nothing = Known((("t", (1,), (1,)),))
            self.assertEqual((determined(question, nothing), first_open(question, nothing)), (None, (0,)))
            self.assertEqual(determined(question, nothing.with_page(("t", 0, 0, page_of([(0,)])))), answer)
            self.assertEqual(raised(check_factor, question), ("NoFactor", "both"))


class TestFactor(unittest.TestCase):
    def test_kinds(self):
        both = ("or", (ROW, ("not", ROW)))
        denied = ("not", ROW)
        for kind in (("all",), ("first", 2, (1,), ())):
            for formula in (ROW, denied, both):
                self.assertIsNone(check_factor(made(kind, formula)))
        for kind in (("count",), ("sum", (1,))):
            for formula in (ROW, denied, ("and", ()), ("and", (("not", denied), ROW))):
                self.assertIsNone(check_factor(made(kind, formula)))
            self.assertEqual(raised(check_factor, made(kind, both)), ("NoFactor", "both"))
        for formula in (ROW, denied, both, ("or", ())):
            self.assertEqual(raised(check_factor, made(("any",), formula)), ("NoFactor", "any"))

    def test_one_table_of_several(self):
        tables = (("s", (4,)), ("t", (4,)))
        formula = ("and", (("row", "s", (A,)), ("not", ROW)))
        self.assertIsNone(check_factor(made(("count",), formula, (4,), tables)))
        formula = ("and", (("row", "s", (A,)), ("not", ROW), ROW))
        self.assertEqual(raised(check_factor, made(("count",), formula, (4,), tables)), ("NoFactor", "both"))


class TestAgainstAllFillings(unittest.TestCase):
    def test_determined(self):
        seen = {True: 0, False: 0}
        for question, store, known in small_cases(95, 250):
            common = None
            for worths in plain_fillings(known, all_rows(question)):
                right = right_answers(question, holding_points(question, worths))
                common = right if common is None else common & right
            told = determined(question, known)
            seen[told is not None] += 1
            if raised(check_factor, question) != ("NoFactor", "both"):
                self.assertEqual(told is not None, bool(common), question.told)
            elif told is None:
                self.assertTrue([point for point in all_points_of(question) if decided(question, known, point) is None])
            if told is not None:
                self.assertIn(told[0], common)
                self.assertTrue(is_right(question, store, told[0]))
                self.assertTrue(only_tuples(told))
                if question.kind[0] == "any" and told[0] is not None:
                    self.assertEqual(told[0], min(point for point in all_points_of(question)
                                                  if decided(question, known, point)))
        self.assertGreater(min(seen.values()), 30)

    def test_points_that_count(self):
        for question, _, known in small_cases(96, 150, 100):
            counting = [point for point in walked(question) if counts_open(question, known, point)]
            self.assertEqual(counting, [point for point in walked(question) if plain_counts(question, known, point)])
            self.assertEqual(unchanged(self, first_open, question, known), counting[0] if counting else None)
            self.assertEqual(determined(question, known) is None, counting != [])
            if question.kind[0] == "first":
                self.assertEqual(len({group_of(question, point) for point in counting}), len(counting))

    def test_settled_ahead(self):
        for question, _, known in small_cases(97, 150, 100):
            first = first_open(question, known)
            settled = [point for point in walked(question) if decided(question, known, point)
                       and (first is None or is_ahead(question, point, first))]
            if question.kind[0] == "first":
                kept = []
                for point in settled:
                    if len([one for one in kept if group_of(question, one) == group_of(question, point)]) < question.kind[1]:
                        kept.append(point)
                settled = kept
            if question.kind[0] == "any":
                settled = [] if first is not None or determined(question, known) == (None,) else settled[:1]
            self.assertEqual(settled_ahead(question, known), tuple(settled))

    def test_points_that_count_tell_stores_apart(self):
        """[9.4]: two possible stores differ at such a point and answer unlike; for "any" no answer is right in all."""
        for question, store, known in small_cases(98, 150, 7):
            if raised(check_factor, question) == ("NoFactor", "both"):
                continue
            tables = [(worths, holding_points(question, worths)) for worths in plain_fillings(known, all_rows(question))]
            for point in all_points_of(question):
                if not counts_open(question, known, point):
                    continue
                with_it = [worths for worths, holding in tables if point in holding]
                without = [worths for worths, holding in tables if point not in holding]
                self.assertTrue(with_it and without)
                if question.kind[0] == "any":
                    common = set.intersection(*[right_answers(question, holding) for _, holding in tables])
                    self.assertEqual(common, set())
                else:
                    pairs = [(one, other) for one in with_it for other in without]
                    self.assertTrue(any(self.answers_unlike(question, store, known, pair) for pair in pairs[:2000]))

    def answers_unlike(self, question, store, known, pair):
        answers = []
        for worths in pair:
            other = filled_store(store, known, worths)
            self.assertTrue(all(other.holds(entry) for entry in known.entries))
            answers.append(plain_answer(question, other))
        return answers[0] != answers[1]

    def test_settled_points_belong_to_the_answer(self):
        for question, _, known in small_cases(99, 100, 7):
            if question.kind[0] in ("all", "first"):
                for worths in plain_fillings(known, all_rows(question)):
                    answer = answer_of(question, holding_points(question, worths))
                    self.assertLessEqual(set(settled_ahead(question, known)), set(answer))

    def test_more_pages_undo_nothing(self):
        for question, store, known in small_cases(100, 150, 100):
            told = determined(question, known)
            if told is not None:
                for entry in store.each_entry():
                    if not known.has(*entry[:3], entry[3].first):
                        more = determined(question, known.with_page(entry))
                        if question.kind[0] == "any":
                            self.assertTrue(is_right(question, store, told[0]))
                            self.assertIsNotNone(more)
                        else:
                            self.assertEqual(more, told)


if __name__ == "__main__":
    unittest.main()
