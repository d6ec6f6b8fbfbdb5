"""Tests of fewfetches.kinds: 9.1, 9.2."""

import unittest

from fewfetches.kinds import (answer_by, answer_of, group_of, groups_of, is_ahead, is_right, order_key, plain_answer,
                              walked, weight_of)
from fewfetches.questions import Question
from tests.helpers import only_tuples, rows_of, seeded, unchanged
from tests.makers import WORDS, all_points_of, plain_holds, plain_rows, random_question, random_store

TABLES = (("t", (3, 3)),)
ROW = ("row", "t", (("var", 0), ("var", 1)))
EXAMPLE = Question([("t", (3, 3))], (3, 3), ROW, ("first", 1, (2, -1), (1,)))


def made(kind, widths=(3, 3), formula=ROW):
    return Question(TABLES, widths, formula, kind)


def plain_key(kind, point):
    """The order key by the words of [9.1]."""
    if kind[0] != "first":
        return (), 0, point
    return (tuple(point[at] for at in kind[3]), -sum(kind[2][at] * point[at] for at in range(len(point))), point)


def reckoned(question, holding):
    """The answer by the words of [9.2], holding being a set of points."""
    kind = question.kind
    if kind[0] == "all":
        return tuple(sorted(holding))
    if kind[0] == "any":
        return min(holding) if holding else None
    if kind[0] == "count":
        return len(holding)
    if kind[0] == "sum":
        return sum(1 + sum(kind[1][at] * point[at] for at in range(len(point))) for point in holding)
    answer = []
    for group in sorted({plain_key(kind, point)[0] for point in holding}):
        inside = [point for point in holding if plain_key(kind, point)[0] == group]
        answer += sorted(inside, key=lambda point: plain_key(kind, point))[:kind[1]]
    return tuple(answer)


class TestWalk(unittest.TestCase):
    def test_example(self):
        self.assertEqual(order_key(EXAMPLE, (2, 1)), ((1,), -3, (2, 1)))
        self.assertEqual(group_of(EXAMPLE, (2, 1)), (1,))
        self.assertEqual(groups_of(EXAMPLE), ((0,), (1,), (2,)))
        self.assertEqual(list(walked(EXAMPLE)), [(2, 0), (1, 0), (0, 0), (2, 1), (1, 1), (0, 1), (2, 2), (1, 2), (0, 2)])

    def test_equal_sums_come_ascending(self):
        question = made(("first", 1, (1, 1), ()))
        self.assertEqual(list(walked(question)), [(2, 2), (1, 2), (2, 1), (0, 2), (1, 1), (2, 0), (0, 1), (1, 0), (0, 0)])
        self.assertEqual(groups_of(question), ((),))
        question = made(("first", 1, (0, -1), ()))
        self.assertEqual(list(walked(question))[:4], [(0, 0), (1, 0), (2, 0), (0, 1)])

    def test_other_kinds_go_ascending(self):
        for kind in (("all",), ("count",), ("sum", (5, 1)), ("any",)):
            question = made(kind)
            self.assertEqual(list(walked(question)), rows_of((3, 3)))
            self.assertEqual(order_key(question, (2, 1)), ((), 0, (2, 1)))
            self.assertEqual((group_of(question, (2, 1)), groups_of(question)), ((), ((),)))

    def test_groups(self):
        self.assertEqual(groups_of(made(("first", 1, (0, 0), (0, 1)), (3, 2))), tuple(rows_of((3, 2))))
        question = made(("first", 1, (0, 0, 0), (0, 2)), (3, 3, 2))
        self.assertEqual(groups_of(question), tuple(rows_of((3, 2))))
        self.assertEqual(group_of(question, (2, 0, 1)), (2, 1))

    def test_no_variable(self):
        question = made(("first", 1, (), ()), (), ("and", ()))
        self.assertEqual((list(walked(question)), groups_of(question), order_key(question, ())), ([()], ((),), ((), 0, ())))

    def test_is_ahead(self):
        walk = list(walked(EXAMPLE))
        for at, one in enumerate(walk):
            for number, other in enumerate(walk):
                self.assertIs(is_ahead(EXAMPLE, one, other), at < number)

    def test_random(self):
        chance = seeded(91)
        for _ in range(80):
            question = random_question(chance, "first")
            points = all_points_of(question)
            for point in points:
                self.assertEqual(order_key(question, point), plain_key(question.kind, point))
                self.assertEqual(group_of(question, point), plain_key(question.kind, point)[0])
            self.assertEqual(list(walked(question)), sorted(points, key=lambda point: plain_key(question.kind, point)))
            self.assertEqual(groups_of(question), tuple(sorted({group_of(question, point) for point in points})))


class TestAnswers(unittest.TestCase):
    def test_example(self):
        self.assertEqual(unchanged(self, answer_of, EXAMPLE, [(2, 1), (0, 0), (1, 0), (1, 1)]), ((1, 0), (2, 1)))

    def test_each_kind(self):
        points = [(2, 1), (0, 2), (1, 0), (2, 1)]
        table = [(("all",), ((0, 2), (1, 0), (2, 1))), (("count",), 3), (("sum", (0, 0)), 3), (("sum", (10, 1)), 36),
                 (("any",), (0, 2)), (("first", 0, (1, 0), ()), ()), (("first", 1, (1, 0), ()), ((2, 1),)),
                 (("first", 2, (1, 0), ()), ((2, 1), (1, 0))), (("first", 9, (1, 0), ()), ((2, 1), (1, 0), (0, 2))),
                 (("first", 2, (0, 0), ()), ((0, 2), (1, 0))), (("first", 1, (0, 0), (1,)), ((1, 0), (2, 1), (0, 2)))]
        for kind, answer in table:
            self.assertEqual(answer_of(made(kind), points), answer, kind)
            self.assertEqual(answer_of(made(kind), tuple(points[::-1])), answer, kind)

    def test_no_points(self):
        for kind, answer in ((("all",), ()), (("count",), 0), (("sum", (1, 1)), 0), (("any",), None),
                             (("first", 3, (1, 1), (0,)), ())):
            self.assertEqual(answer_of(made(kind), []), answer)

    def test_weights(self):
        self.assertEqual([weight_of(made(kind), (2, 1)) for kind in (("all",), ("count",), ("any",), ("sum", (0, 0)),
                                                                     ("sum", (3, 0)), ("sum", (3, 1000)),
                                                                     ("first", 1, (5, 5), ()))],
                         [1, 1, 1, 1, 7, 1007, 1])

    def test_no_variable(self):
        for kind, some in ((("all",), ((),)), (("count",), 1), (("sum", ()), 1), (("any",), ()), (("first", 1, (), ()), ((),))):
            self.assertEqual(answer_of(made(kind, (), ("and", ())), [()]), some)

    def test_random(self):
        chance = seeded(92)
        for _ in range(150):
            question = random_question(chance)
            points = [point for point in all_points_of(question) if chance.random() < 0.6]
            twice = points + points[:2]
            chance.shuffle(twice)
            answer = answer_of(question, twice)
            self.assertEqual(answer, reckoned(question, set(points)))
            self.assertTrue(only_tuples(answer))


class TestAnswerBy(unittest.TestCase):
    def test_by_hand(self):
        question = made(("all",), (3, 3), ("and", (ROW, ("not", ("row", "t", (("var", 1), ("var", 0)))))))
        inside = [(0, 1), (1, 0), (2, 1), (1, 1)]
        self.assertEqual(answer_by(question, lambda name, row: name == "t" and row in inside), ((2, 1),))

    def test_only_true_counts(self):
        for thing in (None, False, 0, 1, "put"):
            self.assertEqual(answer_by(made(("count",)), lambda name, row, thing=thing: thing), 0)
        self.assertEqual(answer_by(made(("count",)), lambda name, row: True), 9)

    def test_asks_only_rows_of_its_points(self):
        chance = seeded(93)
        for _ in range(60):
            question = random_question(chance)
            asked = []
            answer_by(question, lambda name, row, asked=asked: asked.append((name, row)))
            rows = set().union(*[plain_rows(question.formula, point) for point in all_points_of(question)])
            self.assertLessEqual(set(asked), rows)

    def test_plain_answer_and_is_right(self):
        chance = seeded(94)
        for at in range(120):
            question = random_question(chance, WORDS[at % len(WORDS)])
            store = random_store(chance, question)
            holding = {point for point in all_points_of(question) if plain_holds(question.formula, point, store.value)}
            answer = unchanged(self, plain_answer, question, store)
            self.assertEqual(answer, reckoned(question, holding))
            self.assertEqual(answer_by(question, store.value), answer)
            self.assertIs(is_right(question, store, answer), True)
            if question.kind[0] == "any":
                self.assertIs(is_right(question, store, None), not holding)
                for point in all_points_of(question):
                    self.assertIs(is_right(question, store, point), point in holding)
            elif question.kind[0] in ("count", "sum"):
                self.assertIs(is_right(question, store, answer + 1), False)
            else:
                self.assertIs(is_right(question, store, answer + ((9, 9),)), False)
                if len(answer) > 1:
                    self.assertIs(is_right(question, store, answer[::-1]), False)


if __name__ == "__main__":
    unittest.main()
