"""Overlaid marks, empty, compacted and relaid layers: [6.2], [6.3]."""

import unittest

from fewfetches.compaction import compacted, empty_layer, overlaid, relaid
from fewfetches.indexes import build_index, change_index
from fewfetches.layers import Layer
from tests.helpers import (all_kinds, no_integers, no_sequences, only_tuples, page_of, raised, random_index,
                           random_marks, rows_of, seeded, unchanged)

LINE = ("stretch", (0,))


class TestOverlaid(unittest.TestCase):
    def test_by_hand(self):
        newer = (((0,), "put"), ((1,), "gone"), ((2,), "put"), ((3,), "gone"))
        older = (((2,), "gone"), ((3,), "put"), ((4,), "put"), ((5,), "gone"))
        self.assertEqual(overlaid(newer, older, False),
                         (((0,), "put"), ((1,), "gone"), ((2,), "put"), ((3,), "gone"), ((4,), "put"), ((5,), "gone")))
        self.assertEqual(overlaid(newer, older, True), (((0,), "put"), ((2,), "put"), ((4,), "put")))

    def test_no_marks(self):
        marks = (((0,), "gone"), ((1,), "put"))
        for oldest in (True, False):
            self.assertEqual(overlaid((), (), oldest), ())
            expected = marks[1:] if oldest else marks
            self.assertEqual(overlaid(marks, (), oldest), expected)
            self.assertEqual(overlaid((), marks, oldest), expected)

    def test_against_dicts(self):
        chance = seeded(62)
        rows = rows_of((2, 3))
        for _ in range(200):
            newer, older = random_marks(chance, rows), random_marks(chance, rows)
            for oldest in (True, False):
                marks = {**dict(older), **dict(newer)}
                expected = tuple(sorted((row, mark) for row, mark in marks.items()
                                        if not (oldest and mark == "gone")))
                found = unchanged(self, overlaid, newer, older, oldest)
                self.assertEqual(found, expected)
                self.assertTrue(only_tuples(found))


class TestEmptyLayer(unittest.TestCase):
    def test_every_kind(self):
        for widths in ((1,), (5,), (2, 3)):
            for kind in all_kinds(widths):
                if kind[0] == "given" and not kind[1]:
                    continue
                layer = empty_layer(list(widths), [kind, LINE if len(widths) == 1 else ["split", [1, 0]]], 3)
                self.assertIsInstance(layer, Layer)
                self.assertEqual((layer.widths, layer.marks, len(layer)), (widths, (), 2))
                self.assertEqual(layer.indexes[0], build_index(kind, widths, (), 3))

    def test_one_and_three_kinds(self):
        for many in (1, 2, 3):
            self.assertEqual(len(empty_layer((4,), [LINE] * many, 1)), many)
            self.assertEqual(len(empty_layer((4,), (LINE,) * many, 4096)), many)

    def test_faults_in_order(self):
        for widths in no_sequences() + [(), (0,), (True,), (64, 65), (1, 1, 1, 1)]:
            self.assertEqual(raised(empty_layer, widths, None, None), ("BadWidths",))
        for kinds in no_sequences() + [(), [], [LINE] * 4, LINE, [LINE, None], [LINE, ("stretch", (1,))],
                                       [("lots", True)], [[LINE]]]:
            self.assertEqual(raised(empty_layer, (4,), kinds, None), ("BadKinds",))
        for room in no_integers() + [0, -1, 4097]:
            self.assertEqual(raised(empty_layer, (4,), [LINE], room), ("BadIndex", "room"))


class TestCompacted(unittest.TestCase):
    def test_by_hand(self):
        newer = Layer((4,), [[page_of(rows_of((4,)), [((0,), "gone"), ((1,), "put")])]])
        older = Layer((4,), [[page_of([(0,), (1,)], [((0,), "put")]), page_of([(2,), (3,)], [((2,), "gone")])],
                             [page_of(rows_of((4,)), [((0,), "put"), ((2,), "gone")])]])
        both = compacted(newer, older, [LINE, LINE], 2, False)
        self.assertEqual(both.marks, (((0,), "gone"), ((1,), "put"), ((2,), "gone")))
        self.assertEqual([page.rows for page in both.indexes[0]], [((0,), (1,)), ((2,), (3,))])
        self.assertEqual(both.indexes[0][1], older.indexes[0][1])
        self.assertEqual([page.rows for page in both.indexes[1]], [((0,),), ((1,), (2,), (3,))])
        last = compacted(newer, older, [LINE, LINE], 2, True)
        self.assertEqual(last.marks, (((1,), "put"),))
        self.assertEqual(len(last), 2)

    def test_nothing_to_change(self):
        older = Layer((4,), [[page_of([(0,), (3,)]), page_of([(1,), (2,)], [((1,), "put")])]])
        newer = empty_layer((4,), [LINE, LINE], 1)
        for oldest in (True, False):
            self.assertEqual(compacted(newer, older, [LINE], 2, oldest), older)

    def test_the_oldest_layer_loses_gone_marks_of_its_own(self):
        older = Layer((4,), [[page_of(rows_of((4,)), [((1,), "gone"), ((2,), "put")])]])
        newer = empty_layer((4,), [LINE], 1)
        self.assertEqual(compacted(newer, older, [LINE], 4, False), older)
        self.assertEqual(compacted(newer, older, [LINE], 4, True).marks, (((2,), "put"),))

    def test_against_change_index(self):
        chance = seeded(63)
        for widths in ((6,), (3, 3)):
            rows = rows_of(widths)
            for _ in range(60):
                layers = []
                for _ in range(2):
                    marks = random_marks(chance, rows)
                    layers.append(Layer(widths, [random_index(chance, widths, marks)
                                                 for _ in range(chance.randint(1, 3))]))
                newer, older = layers
                kinds = [chance.choice(all_kinds(widths)) for _ in older.indexes]
                room, oldest = chance.choice([1, 2, 4, 4096]), chance.choice([True, False])
                wanted = dict(overlaid(newer.marks, older.marks, oldest))
                changes = [(row, wanted.get(row)) for row in rows if wanted.get(row) != older.mark(row)]
                expected = [change_index(kind, widths, room, index, changes)[0]
                            for kind, index in zip(kinds, older.indexes)]
                found = compacted(newer, older, kinds, room, oldest)
                self.assertEqual(found, Layer(widths, expected))
                self.assertEqual(found.marks, tuple(sorted(wanted.items())))


class TestRelaid(unittest.TestCase):
    def setUp(self):
        self.marks = [((0,), "put"), ((3,), "gone")]
        self.layer = Layer((4,), [[page_of([(row,) for row in range(4)], self.marks)]] * 3)

    def test_one_index_is_built_anew(self):
        for index in range(3):
            for kind in (("lots", 2), ["stretch", [0]], ("grid", (3,))):
                newer = relaid(self.layer, index, kind, 1)
                for other in range(3):
                    built = build_index(kind, (4,), self.marks, 1)
                    self.assertEqual(newer.indexes[other], built if other == index else self.layer.indexes[other])
                self.assertEqual(newer.marks, tuple(self.marks))
        self.assertEqual(len(self.layer.indexes[0]), 1)

    def test_faults_in_order(self):
        for index in no_integers() + [-1, 3]:
            error = raised(relaid, self.layer, index, None, None)
            self.assertEqual(error[0], "NoIndex")
            self.assertIs(error[1], index)
        for kind in no_sequences() + [("stretch", (1,)), ("lots", 0)]:
            self.assertEqual(raised(relaid, self.layer, 0, kind, None), ("BadIndex", "kind"))
        for room in no_integers() + [0, 4097]:
            self.assertEqual(raised(relaid, self.layer, 2, LINE, room), ("BadIndex", "room"))


if __name__ == "__main__":
    unittest.main()
