"""Tests of fewfetches.deciding: 8.1, 8.8, 8.9."""

import unittest

from fewfetches.deciding import decided, first_filling, hangs_on, unknown_rows
from fewfetches.formulas import rows_at
from fewfetches.knowledge import Known
from fewfetches.questions import Question
from tests.helpers import only_tuples, page_of, seeded, unchanged
from tests.makers import (all_points_of, filled_store, plain_fillings, plain_holds, plain_rows, random_question,
                          random_store, some_known)

A = ("var", 0)
TABLES = (("r", (4,)), ("s", (4,)), ("t", (4,)))
R, S, T = ("row", "r", (A,)), ("row", "s", (A,)), ("row", "t", (A,))
ROWS = (("r", (1,)), ("s", (1,)), ("t", (1,)))


def made(formula):
    return Question(TABLES, (4,), formula, ("all",))


def knowing(**marks):
    """Known pages of one layer and index: at row (1,) of each named table a mark, or None for none."""
    pages = [(name, 0, 0, page_of([(1,)], [] if mark is None else [((1,), mark)])) for name, mark in marks.items()]
    return Known(tuple((name, widths, (1,)) for name, widths in TABLES), pages)


def plain_worths(question, known, point):
    """[(filling, worth)] of all fillings of the unknown rows, in their order."""
    told = []
    rows = plain_rows(question.formula, point)
    for worths in plain_fillings(known, rows):
        filling = tuple((row, worths[row]) for row in sorted(rows) if known.row_worth(*row) is None)
        told.append((filling, plain_holds(question.formula, point, lambda name, row: worths[(name, row)])))
    return told


def plain_hangs(question, known, point):
    table = dict(plain_worths(question, known, point))
    rows = [row for row, _ in next(iter(table))]
    hanging = []
    for at, row in enumerate(rows):
        for filling in table:
            other = filling[:at] + ((row, not filling[at][1]),) + filling[at + 1:]
            if table[filling] != table[other] and row not in hanging:
                hanging.append(row)
    return tuple(hanging)


class TestByHand(unittest.TestCase):
    def check(self, formula, known, worth, unknown, hanging, fillings):
        question = made(formula)
        self.assertIs(decided(question, known, (1,)), worth)
        self.assertEqual(unknown_rows(question, known, (1,)), unknown)
        self.assertEqual(hangs_on(question, known, (1,)), hanging)
        self.assertEqual([first_filling(question, known, (1,), False), first_filling(question, known, (1,), True)], fillings)

    def test_one_row(self):
        row = ROWS[:1]
        self.check(R, knowing(), None, row, row, [((row[0], False),), ((row[0], True),)])
        self.check(R, knowing(r="put"), True, (), (), [None, ()])
        self.check(R, knowing(r="gone"), False, (), (), [(), None])
        self.check(R, knowing(r=None), False, (), (), [(), None])
        self.check(("not", R), knowing(), None, row, row, [((row[0], True),), ((row[0], False),)])
        self.check(("not", R), knowing(r="put"), False, (), (), [(), None])

    def test_no_row(self):
        self.check(("and", ()), knowing(), True, (), (), [None, ()])
        self.check(("or", ()), knowing(), False, (), (), [(), None])
        self.check(("less", A, ("num", 1)), knowing(), False, (), (), [(), None])

    def test_a_or_not_a(self):
        row = ROWS[:1]
        self.check(("or", (R, ("not", R))), knowing(), True, row, (), [None, ((row[0], False),)])
        self.check(("and", (R, ("not", R))), knowing(), False, row, (), [((row[0], False),), None])

    def test_and_or(self):
        formula = ("and", (R, ("or", (S, T))))
        out, put = [((row, False),) for row in ROWS], [((row, True),) for row in ROWS]
        self.check(formula, knowing(), None, ROWS, ROWS, [out[0] + out[1] + out[2], put[0] + out[1] + put[2]])
        self.check(formula, knowing(s="put"), None, (ROWS[0], ROWS[2]), ROWS[:1], [out[0] + out[2], put[0] + out[2]])
        self.check(formula, knowing(s=None), None, (ROWS[0], ROWS[2]), (ROWS[0], ROWS[2]), [out[0] + out[2], put[0] + put[2]])
        self.check(formula, knowing(r="gone"), False, ROWS[1:], (), [out[1] + out[2], None])
        self.check(formula, knowing(r="put", t="put"), True, ROWS[1:2], (), [None, out[1]])

    def test_either_but_not_both(self):
        formula = ("or", (("and", (R, ("not", S))), ("and", (("not", R), S))))
        both = ROWS[:2]
        self.check(formula, knowing(), None, both, both,
                   [((ROWS[0], False), (ROWS[1], False)), ((ROWS[0], False), (ROWS[1], True))])
        self.check(formula, knowing(r="put"), None, ROWS[1:2], ROWS[1:2], [((ROWS[1], True),), ((ROWS[1], False),)])

    def test_eight_unknown_rows(self):
        tables = tuple((name, (1,)) for name in "abcdefgh")
        nodes = tuple(("row", name, (("num", 0),)) for name in "abcdefgh")
        known = Known(tuple((name, widths, (1,)) for name, widths in tables))
        question = Question(tables, (), ("and", nodes), ("any",))
        rows = tuple((name, (0,)) for name in "abcdefgh")
        self.assertEqual(hangs_on(question, known, ()), rows)
        self.assertEqual(first_filling(question, known, (), True), tuple((row, True) for row in rows))
        self.assertEqual(first_filling(question, known, (), False), tuple((row, False) for row in rows))
        question = Question(tables, (), ("or", nodes), ("any",))
        self.assertEqual(first_filling(question, known, (), True), tuple((row, row[0] == "h") for row in rows))


class TestAgainstAllFillings(unittest.TestCase):
    def test_random(self):
        chance = seeded(88)
        for _ in range(150):
            question = random_question(chance)
            store = random_store(chance, question)
            known = some_known(chance, store, chance.choice([0, 0.2, 0.5, 0.8, 1]))
            for point in all_points_of(question):
                told = plain_worths(question, known, point)
                worths = {worth for _, worth in told}
                self.assertIs(decided(question, known, point), worths.pop() if len(worths) == 1 else None)
                for worth in (True, False):
                    right = [filling for filling, held in told if held is worth]
                    self.assertEqual(right, sorted(right))
                    self.assertEqual(first_filling(question, known, point, worth), right[0] if right else None)
                hanging = hangs_on(question, known, point)
                self.assertEqual(hanging, plain_hangs(question, known, point))
                self.assertEqual(hanging == (), decided(question, known, point) is not None)
                unknown = unchanged(self, unknown_rows, question, known, point)
                self.assertEqual(unknown, tuple(row for row, _ in told[0][0]))
                self.assertEqual(unknown, tuple(row for row in rows_at(question, point) if known.row_worth(*row) is None))
                self.assertTrue(only_tuples((unknown, hanging)))

    def test_decided_is_so_in_every_possible_store(self):
        chance = seeded(89)
        for _ in range(60):
            question = random_question(chance)
            store = random_store(chance, question)
            known = some_known(chance, store, 0.4)
            for point in all_points_of(question):
                held = set()
                for worths in plain_fillings(known, rows_at(question, point)):
                    other = filled_store(store, known, worths)
                    self.assertTrue(all(other.holds(entry) for entry in known.entries))
                    held.add(plain_holds(question.formula, point, other.value))
                self.assertEqual(decided(question, known, point), held.pop() if len(held) == 1 else None)

    def test_more_known_pages(self):
        """[8.1] (d) and (e): rows that a point hangs on go only as their first unknown layers get known."""
        chance = seeded(90)
        for _ in range(40):
            question = random_question(chance)
            store = random_store(chance, question)
            known = some_known(chance, store, 0.2)
            for entry in store.each_entry():
                if not known.has(*entry[:3], entry[3].first):
                    more = known.with_page(entry)
                    for point in all_points_of(question):
                        before, after = hangs_on(question, known, point), hangs_on(question, more, point)
                        self.assertLessEqual(set(after), set(before))
                        if all(more.row_worth(*row) is None for row in before):
                            self.assertEqual(after, before)
                        if before:
                            near = any(entry[:2] == (name, known.first_unknown(name, row)) and entry[3].holds(row)
                                       for name, row in before)
                            self.assertTrue(near or decided(question, more, point) is None)
                        else:
                            self.assertIs(decided(question, more, point), decided(question, known, point))


if __name__ == "__main__":
    unittest.main()
