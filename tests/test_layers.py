"""Layers: [5.1] to [5.3]."""

import copy
import unittest

from fewfetches.boxes import Box
from fewfetches.layers import Layer
from fewfetches.pages import Page
from tests.helpers import (no_integers, no_sequences, only_tuples, page_of, raised, random_index, random_layer,
                           random_marks, rows_of, seeded, unchanged)

MARKS = (((0, 1), "put"), ((1, 0), "gone"))


def two_indexes():
    """Two indexes of the widths (2, 2) with the same marks."""
    one = [page_of([(1, 0), (1, 1)], MARKS[1:]), page_of([(0, 0), (0, 1)], MARKS[:1])]
    other = [page_of([(0, 1), (1, 0)], MARKS), page_of([(0, 0)]), page_of([(1, 1)])]
    return one, other


class TestLayer(unittest.TestCase):
    def test_attributes(self):
        one, other = two_indexes()
        indexes = [one, tuple(other)]
        layer = unchanged(self, Layer, [2, 2], indexes)
        self.assertEqual(layer.widths, (2, 2))
        self.assertEqual(layer.indexes, ((one[1], one[0]), (other[1], other[0], other[2])))
        self.assertEqual(layer.marks, MARKS)
        self.assertEqual(layer.told, ((2, 2), ((one[1].told, one[0].told), tuple(page.told for page in
                                                                               (other[1], other[0], other[2])))))
        self.assertEqual(len(layer), 2)
        self.assertTrue(only_tuples(layer.told) and only_tuples(layer.indexes) and only_tuples(layer.widths))
        one.clear()
        indexes.clear()
        self.assertEqual([len(index) for index in layer.indexes], [2, 3])

    def test_one_and_three_indexes(self):
        one, other = two_indexes()
        self.assertEqual(len(Layer((2, 2), (one,))), 1)
        self.assertEqual(len(Layer((2, 2), [one, other, one])), 3)
        self.assertEqual(len(Layer((1,), [[page_of([(0,)])]])), 1)

    def test_mark_and_read(self):
        one, other = two_indexes()
        layer = Layer((2, 2), [one, other])
        for row in rows_of((2, 2)):
            for given in (row, list(row)):
                self.assertEqual(layer.mark(given), dict(MARKS).get(row))
                for index, pages in enumerate((one, other)):
                    holding = [page for page in pages if row in page.rows]
                    self.assertEqual([layer.read(index, given)], holding)

    def test_all_rows_by_all_indexes(self):
        chance = seeded(51)
        for widths in ((7,), (3, 3), (2, 2, 3)):
            for _ in range(30):
                layer = random_layer(chance, widths, chance.randint(1, 3))
                for row in rows_of(widths):
                    self.assertEqual(layer.mark(row), dict(layer.marks).get(row))
                    for index in range(len(layer)):
                        page = layer.read(index, row)
                        self.assertIn(page, layer.indexes[index])
                        self.assertTrue(page.holds(row))
                        self.assertEqual(page.mark(row), layer.mark(row))
                again = Layer.of_told(layer.told)
                self.assertIsInstance(again, Layer)
                self.assertEqual(again, layer)
                self.assertEqual(again.told, layer.told)

    def test_equal_exactly_if_widths_and_indexes_are(self):
        one, other = two_indexes()
        layer = Layer((2, 2), [one, other])
        self.assertEqual(layer, Layer([2, 2], (tuple(reversed(one)), tuple(reversed(other)))))
        for unlike in (Layer((2, 2), [other, one]), Layer((2, 2), [one]), Layer((2, 2), [one, other, one]),
                       layer.with_marks([((0, 0), "put")]), layer.with_marks([((0, 1), "gone")])):
            self.assertIs(layer == unlike, False)
            self.assertIs(layer != unlike, True)
        for thing in (None, 0, layer.told, layer.indexes, "layer"):
            self.assertIs(layer == thing, False)

    def test_wrong_widths(self):
        for widths in no_sequences() + [(), (0,), (65,), (True,), (64, 65), (2, 2, 2, 2), (64, 64, 2)]:
            self.assertEqual(raised(Layer, widths, None), ("BadLayer", "widths", None))

    def test_wrong_indexes(self):
        one, other = two_indexes()
        for indexes in no_sequences() + [(), [], [one] * 4]:
            self.assertEqual(raised(Layer, (2, 2), indexes), ("BadLayer", "indexes", None))

    def test_wrong_pages(self):
        one, other = two_indexes()
        for pages in no_sequences() + [[], (), [None], [one[0], Box((0, 0), (1, 2))], [one], [one[0].told]]:
            self.assertEqual(raised(Layer, (2, 2), [pages]), ("BadLayer", "pages", 0))
            self.assertEqual(raised(Layer, (2, 2), [one, other, pages]), ("BadLayer", "pages", 2))

    def test_wrong_parting(self):
        one, other = two_indexes()
        for pages in (one[:1], one + one[:1], one + [page_of([(0, 2)])], [page_of([(0,)])], [page_of([(0, 0, 0)])]):
            self.assertEqual(raised(Layer, (2, 2), [pages]), ("BadLayer", "parting", 0))
            self.assertEqual(raised(Layer, (2, 2), [other, pages]), ("BadLayer", "parting", 1))

    def test_wrong_marks(self):
        one, other = two_indexes()
        for marks in ((), MARKS[:1], MARKS + (((1, 1), "put"),), (((0, 1), "gone"), ((1, 0), "put"))):
            pages = [page_of(rows_of((2, 2)), marks)]
            self.assertEqual(raised(Layer, (2, 2), [one, pages]), ("BadLayer", "marks", 1))
            self.assertEqual(raised(Layer, (2, 2), [one, other, pages]), ("BadLayer", "marks", 2))
            self.assertEqual(raised(Layer, (2, 2), [pages, one, other]), ("BadLayer", "marks", 1))

    def test_faults_are_told_index_by_index(self):
        one, other = two_indexes()
        unlike = [page_of(rows_of((2, 2)))]
        self.assertEqual(raised(Layer, (2, 2), [one[:1], None]), ("BadLayer", "parting", 0))
        self.assertEqual(raised(Layer, (2, 2), [one, unlike, None]), ("BadLayer", "marks", 1))
        self.assertEqual(raised(Layer, (2, 2), [one, unlike, one[:1]]), ("BadLayer", "marks", 1))
        self.assertEqual(raised(Layer, (2, 2), [one, one[:1], unlike]), ("BadLayer", "parting", 1))
        self.assertEqual(raised(Layer, (2, 2), [one, [page_of([(0, 0)], [((0, 0), "put")])]]),
                         ("BadLayer", "parting", 1))

    def test_bad_rows_and_indexes(self):
        layer = Layer((2, 2), two_indexes())
        for row in no_sequences() + [(), (0,), (0, 0, 0), (2, 0), (0, -1), (True, 0), [0, False], (0.0, 0)]:
            for call in ((layer.mark,), (layer.read, 0), (layer.read, 1)):
                error = raised(*call, row)
                self.assertEqual(error[0], "BadRow")
                self.assertIs(error[1], row)
        for index in no_integers() + [-1, 2, 3]:
            for row in ((0, 0), (9, 9), None):
                error = raised(layer.read, index, row)
                self.assertEqual(error[0], "NoIndex")
                self.assertIs(error[1], index)


class TestWithMarks(unittest.TestCase):
    def setUp(self):
        self.layer = Layer((2, 2), two_indexes())

    def test_all_indexes_are_changed(self):
        changes = [[[0, 0], "put"], ((1, 0), None), ((1, 1), "put"), [(1, 1), "gone"]]
        told = self.layer.told
        newer = unchanged(self, self.layer.with_marks, changes)
        self.assertEqual(newer.marks, (((0, 0), "put"), ((0, 1), "put"), ((1, 1), "gone")))
        self.assertEqual([[page.place for page in index] for index in newer.indexes],
                         [[page.place for page in index] for index in self.layer.indexes])
        for index in range(2):
            self.assertEqual(newer.read(index, (1, 1)).mark((1, 1)), "gone")
            self.assertIsNone(newer.read(index, (1, 0)).mark((1, 0)))
        self.assertEqual(self.layer.told, told)

    def test_no_change(self):
        for changes in ((), [], [((0, 0), None)], [((0, 1), "put")], [((0, 1), None), ((0, 1), "put")]):
            self.assertEqual(self.layer.with_marks(changes), self.layer)

    def test_against_a_plain_dict(self):
        chance = seeded(53)
        for widths in ((6,), (2, 3)):
            rows = rows_of(widths)
            for _ in range(60):
                marks = random_marks(chance, rows)
                layer = Layer(widths, [random_index(chance, widths, marks) for _ in range(chance.randint(1, 3))])
                changes = [(chance.choice(rows), chance.choice(["put", "gone", None]))
                           for _ in range(chance.randint(0, 8))]
                kept = {**dict(marks), **dict(changes)}
                newer = layer.with_marks(tuple(changes))
                self.assertEqual(newer.marks, tuple(sorted((row, mark) for row, mark in kept.items() if mark)))
                self.assertEqual(newer.told, Layer(widths, [
                    [Page(page.place, [(row, kept[row]) for row in page.rows if kept.get(row)]) for page in index]
                    for index in layer.indexes]).told)

    def test_no_changes_at_all(self):
        for thing in no_sequences():
            self.assertEqual(raised(self.layer.with_marks, thing), ("BadChange", None))

    def test_wrong_items(self):
        good = ((0, 0), "put")
        wrong = no_sequences() + [(), (good,), ((0, 0), "put", 1), ((0, 0), "x"), ((0, 0), True), ((0, 0), False),
                                  ((0, 0), 0), ((0, 0), ["put"]), ((0, 0), "none"), ((2, 0), "put"), ((0,), "put"),
                                  ((0, True), None), ((), None), ("ab", "put"), (None, None), ({}, "put"), "ab"]
        for thing in wrong:
            self.assertEqual(raised(self.layer.with_marks, [thing]), ("BadChange", 0))
            self.assertEqual(raised(self.layer.with_marks, (good, good, thing, thing)), ("BadChange", 2))
        told = copy.deepcopy(self.layer.told)
        self.assertEqual(self.layer.told, told)
        self.assertEqual(self.layer.marks, MARKS)


if __name__ == "__main__":
    unittest.main()
