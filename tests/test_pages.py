"""Marks, changes, the slab form and pages: [3.1] to [3.6]."""

import itertools
import unittest

from fewfetches.boxes import Box, points_of
from fewfetches.pages import Page, check_changes, check_marks, slabs_of
from tests.helpers import (no_integers, no_sequences, only_tuples, plain_slabs, points_in, raised, rows_of, seeded,
                           subsets, unchanged)


def told_slabs(rows):
    return [box.told for box in slabs_of(rows)]


class TestSlabs(unittest.TestCase):
    def test_example(self):
        rows = [(0, 1), (1, 1), (1, 2), (0, 2), (2, 2), (0, 4)]
        self.assertEqual(told_slabs(rows), [((0, 1), (1, 3)), ((0, 4), (1, 5)), ((1, 1), (2, 3)), ((2, 2), (3, 3))])

    def test_no_rows(self):
        self.assertEqual(slabs_of([]), ())
        self.assertEqual(slabs_of(()), ())

    def test_kinds_of_values(self):
        slabs = slabs_of([[0, 1]])
        self.assertIsInstance(slabs, tuple)
        self.assertIsInstance(slabs[0], Box)
        self.assertEqual(slabs[0], Box((0, 1), (1, 2)))

    def test_every_small_set_of_rows(self):
        for widths in ((7,), (3, 3), (2, 4), (4, 2), (2, 2, 2), (1, 3, 2), (3, 1, 2), (2, 2, 1)):
            for rows in subsets(rows_of(widths)):
                self.assertEqual(told_slabs(rows), plain_slabs(rows))

    def test_some_greater_sets_of_rows(self):
        chance = seeded(33)
        for widths in ((64,), (9, 9), (4, 16), (3, 4, 5), (5, 2, 7)):
            for share in (0.1, 0.5, 0.9, 0.97):
                for _ in range(12):
                    rows = [row for row in rows_of(widths) if chance.random() < share]
                    self.assertEqual(told_slabs(rows), plain_slabs(rows))

    def test_boxes_hold_the_rows_once_and_ascend(self):
        for rows in subsets(rows_of((3, 3))):
            slabs = slabs_of(rows)
            self.assertEqual(sorted(point for box in slabs for point in points_of(box)), sorted(rows))
            lows = [box.lows for box in slabs]
            self.assertEqual(lows, sorted(lows))

    def test_a_box_has_one_box(self):
        for lows, highs in (((0,), (64,)), ((2, 3), (5, 7)), ((1, 0, 2), (3, 2, 4)), ((63,), (64,))):
            self.assertEqual(slabs_of(points_in(lows, highs)), (Box(lows, highs),))

    def test_rows_in_any_order_and_twice_and_as_lists(self):
        chance = seeded(3)
        for rows in subsets(rows_of((2, 3))):
            mixed = rows + rows[:2] + [list(row) for row in rows[1:]]
            chance.shuffle(mixed)
            expected = slabs_of(rows)
            self.assertEqual(unchanged(self, slabs_of, mixed), expected)
            self.assertEqual(slabs_of(tuple(mixed)), expected)

    def test_no_values_between_runs_are_filled(self):
        self.assertEqual(told_slabs([(0,), (2,), (3,), (63,)]), [((0,), (1,)), ((2,), (4,)), ((63,), (64,))])
        self.assertEqual(told_slabs([(0, 5), (2, 5)]), [((0, 5), (1, 6)), ((2, 5), (3, 6))])
        self.assertEqual(told_slabs([(0, 5), (1, 5), (1, 6)]), [((0, 5), (1, 6)), ((1, 5), (2, 7))])


class TestMarks(unittest.TestCase):
    def test_order(self):
        marks = [((2,), "put"), [[0], "gone"], ([1], "put")]
        checked = unchanged(self, check_marks, marks)
        self.assertEqual(checked, (((0,), "gone"), ((1,), "put"), ((2,), "put")))
        self.assertTrue(only_tuples(checked))
        self.assertEqual(check_marks(tuple(marks)), checked)
        self.assertEqual(check_marks([]), ())
        self.assertEqual(check_marks(()), ())

    def test_rows_of_any_length_and_values(self):
        marks = [((), "put"), ((-5, 1000), "gone"), ((1, 2, 3, 4, 5, 6), "put")]
        self.assertEqual(check_marks(marks), tuple(sorted(marks)))
        self.assertEqual(check_changes(marks), tuple(sorted(marks)))

    def test_wrong_things(self):
        good = ((0,), "put")
        for check in (check_marks, check_changes):
            for thing in no_sequences():
                self.assertEqual(raised(check, thing), ("BadPage", "mark"))
                self.assertEqual(raised(check, [thing]), ("BadPage", "mark"))
                self.assertEqual(raised(check, [good, (thing, "put")]), ("BadPage", "mark"))
            for entry in ((), ((0,),), ((0,), "put", "put"), [(0,), "put", None], "ab"):
                self.assertEqual(raised(check, [good, entry]), ("BadPage", "mark"))
            for thing in no_integers():
                self.assertEqual(raised(check, [((0, thing), "put")]), ("BadPage", "mark"))
            for mark in (True, False, 0, 1, "", "Put", "puts", "none", "pu", b"put", ["put"], ("put",), {}, {"put"}):
                self.assertEqual(raised(check, [((0,), mark)]), ("BadPage", "mark"))

    def test_none_is_a_change_but_no_mark(self):
        self.assertEqual(raised(check_marks, [((0,), None)]), ("BadPage", "mark"))
        self.assertEqual(check_changes([((0,), None)]), (((0,), None),))

    def test_rows_that_stand_twice(self):
        for twice in ([((0,), "put"), ((0,), "put")], [((0,), "put"), ([0], "gone")],
                      (((0,), "put"), ((1,), "put"), [[0], "gone"])):
            self.assertEqual(raised(check_marks, twice), ("BadPage", "mark"))
        changes = [((1,), "put"), ((0,), "put"), ([1], None), ((0,), "gone"), ((2,), None), ((2,), "put")]
        checked = unchanged(self, check_changes, changes)
        self.assertEqual(checked, (((0,), "gone"), ((1,), None), ((2,), "put")))
        self.assertTrue(only_tuples(checked))
        self.assertEqual(check_changes(tuple(changes)), checked)
        self.assertEqual(check_changes([]), ())


class TestPage(unittest.TestCase):
    def test_attributes(self):
        boxes = [Box((1, 0), (2, 2)), Box((0, 0), (1, 2))]
        marks = [([1, 1], "gone"), ((0, 1), "put")]
        page = unchanged(self, Page, boxes, marks)
        self.assertEqual(page.place, (Box((0, 0), (2, 2)),))
        self.assertEqual(page.marks, (((0, 1), "put"), ((1, 1), "gone")))
        self.assertEqual(page.rows, ((0, 0), (0, 1), (1, 0), (1, 1)))
        self.assertEqual(page.first, (0, 0))
        self.assertEqual(page.told, ((((0, 0), (2, 2)),), (((0, 1), "put"), ((1, 1), "gone"))))
        self.assertTrue(only_tuples(page.told) and only_tuples(page.place) and only_tuples(page.rows))
        boxes.append(Box((5, 5), (6, 6)))
        marks[0][0][0] = 0
        marks.clear()
        self.assertEqual(page.marks, (((0, 1), "put"), ((1, 1), "gone")))
        self.assertEqual(len(page.place), 1)

    def test_without_marks(self):
        page = Page((Box((3,), (5,)),))
        self.assertEqual((page.marks, page.rows, page.first), ((), ((3,), (4,)), (3,)))
        self.assertEqual(page, Page([Box((3,), (5,))], ()))
        self.assertEqual(page, Page([Box((3,), (5,))], marks=[]))

    def test_rows_and_place_of_every_small_set(self):
        for widths in ((6,), (2, 3), (2, 2, 2)):
            for rows in subsets(rows_of(widths))[1:]:
                single = [Box(row, [value + 1 for value in row]) for row in rows]
                seeded(len(rows)).shuffle(single)
                page = Page(single)
                self.assertEqual(page.rows, tuple(rows))
                self.assertEqual(page.first, rows[0])
                self.assertEqual([box.told for box in page.place], plain_slabs(rows))

    def test_equal_exactly_if_rows_and_marks_are(self):
        one = Page([Box((0, 0), (1, 3)), Box((1, 0), (2, 3))], [((0, 0), "put")])
        for boxes in ([Box((0, 0), (2, 3))], [Box((0, 0), (2, 1)), Box((0, 1), (2, 3))],
                      [Box((1, 0), (2, 3)), Box((0, 0), (1, 3))]):
            self.assertEqual(one, Page(boxes, [[[0, 0], "put"]]))
            for marks in ([], [((0, 0), "gone")], [((0, 1), "put")], [((0, 0), "put"), ((0, 1), "put")]):
                self.assertNotEqual(one, Page(boxes, marks))
        self.assertNotEqual(one, Page([Box((0, 0), (2, 4))], [((0, 0), "put")]))
        for thing in (None, 0, one.told, one.place, "page"):
            self.assertIs(one == thing, False)
            self.assertIs(one != thing, True)

    def test_place(self):
        box = Box((0,), (1,))
        for thing in no_sequences() + [[], (), box]:
            self.assertEqual(raised(Page, thing), ("BadPage", "place"))
        for thing in [None, True, 0, "a", ((0,), (1,)), [(0,), (1,)], [box], Box, {}]:
            self.assertEqual(raised(Page, [box, thing]), ("BadPage", "place"))

    def test_columns(self):
        for boxes in ([Box((), ())], [Box((0,) * 4, (1,) * 4)], [Box((0,) * 5, (1,) * 5)],
                      [Box((0,), (1,)), Box((1, 0), (2, 1))], [Box((0,), (1,)), Box((), ())]):
            self.assertEqual(raised(Page, boxes), ("BadPage", "columns"))
        for columns in (1, 2, 3):
            self.assertEqual(Page([Box((0,) * columns, (1,) * columns)]).rows, ((0,) * columns,))

    def test_across(self):
        for boxes in ([Box((0,), (2,)), Box((1,), (3,))], [Box((0,), (2,))] * 2, [Box((5, 5), (6, 6))] * 2,
                      [Box((0, 0), (2, 2)), Box((5, 5), (6, 6)), Box((1, 1), (2, 3))],
                      [Box((0, 0), (4, 4)), Box((1, 1), (2, 2))]):
            self.assertEqual(raised(Page, boxes), ("BadPage", "across"))
        self.assertEqual(Page([Box((0,), (2,)), Box((2,), (3,))]).place, (Box((0,), (3,)),))

    def test_mark_and_outside(self):
        place = [Box((0, 0), (1, 2))]
        for thing in no_sequences():
            self.assertEqual(raised(Page, place, thing), ("BadPage", "mark"))
        self.assertEqual(raised(Page, place, [((0, 0), None)]), ("BadPage", "mark"))
        self.assertEqual(raised(Page, place, [((0, 0), "put"), ((0, 0), "put")]), ("BadPage", "mark"))
        for row in ((1, 0), (0, 2), (0,), (), (0, 0, 0), (-1, 0), (0, 100)):
            self.assertEqual(raised(Page, place, [((0, 0), "put"), (row, "put")]), ("BadPage", "outside"))

    def test_order_of_faults(self):
        box, wide = Box((0,), (2,)), Box((0, 0), (1, 1))
        self.assertEqual(raised(Page, [box, wide, None], None), ("BadPage", "place"))
        self.assertEqual(raised(Page, [box, box, wide], None), ("BadPage", "columns"))
        self.assertEqual(raised(Page, [box, box], None), ("BadPage", "across"))
        self.assertEqual(raised(Page, [box], [((9,), "put"), ((1,), "x")]), ("BadPage", "mark"))
        self.assertEqual(raised(Page, [box], [((9,), "put"), ((9,), "put")]), ("BadPage", "mark"))
        self.assertEqual(raised(Page, [box], [((9,), "put")]), ("BadPage", "outside"))

    def test_four_thousand_rows(self):
        page = Page([Box((0, 0), (32, 64)), Box((32, 0), (64, 64))], [((63, 63), "put")])
        self.assertEqual(page.place, (Box((0, 0), (64, 64)),))
        self.assertEqual(len(page.rows), 4096)
        self.assertEqual(page.mark((63, 63)), "put")

    def test_holds_and_mark(self):
        page = Page([Box((0, 1), (2, 2)), Box((1, 3), (2, 4))], [((0, 1), "put"), ((1, 3), "gone")])
        rows = {(0, 1), (1, 1), (1, 3)}
        marks = {(0, 1): "put", (1, 3): "gone"}
        for row in itertools.product(range(-1, 5), repeat=2):
            for given in (row, list(row)):
                self.assertIs(page.holds(given), row in rows)
                self.assertEqual(page.mark(given), marks.get(row))
        for row in ((), (0,), (0, 1, 0), [1], (10 ** 9, 0)):
            self.assertIs(page.holds(row), False)
            self.assertIsNone(page.mark(row))

    def test_of_told(self):
        for page in (Page([Box((0,), (3,))], [((1,), "put")]), Page([Box((0, 1), (2, 2)), Box((1, 3), (2, 4))]),
                     Page([Box((0, 0, 0), (1, 1, 1))], [((0, 0, 0), "gone")])):
            again = Page.of_told(page.told)
            self.assertIsInstance(again, Page)
            self.assertEqual(again, page)
            self.assertEqual(again.told, page.told)


class TestWithMarks(unittest.TestCase):
    def setUp(self):
        self.page = Page([Box((0,), (5,))], [((1,), "put"), ((2,), "gone"), ((3,), "put")])

    def test_changes(self):
        changes = [((2,), "put"), ([0], "put"), ((3,), None), ([0], "gone"), ((4,), "put"), ((4,), None)]
        told = self.page.told
        other = unchanged(self, self.page.with_marks, changes)
        self.assertEqual(other, Page([Box((0,), (5,))], [((0,), "gone"), ((1,), "put"), ((2,), "put")]))
        self.assertEqual(other.told[0], told[0])
        self.assertEqual(self.page.told, told)
        self.assertEqual(self.page.mark((2,)), "gone")
        self.assertEqual(other.mark((2,)), "put")
        self.assertIsNone(other.mark((3,)))

    def test_nothing_differs(self):
        for changes in ([], (), [((1,), "put"), ((0,), None)], [((1,), None), ((1,), "put")]):
            self.assertEqual(self.page.with_marks(changes), self.page)

    def test_faults(self):
        for thing in no_sequences():
            self.assertEqual(raised(self.page.with_marks, thing), ("BadPage", "mark"))
        for changes in ([((0,), "x")], [((9,), "put"), ((0,), True)], [((9,), "put"), 3]):
            self.assertEqual(raised(self.page.with_marks, changes), ("BadPage", "mark"))
        for row in ((5,), (-1,), (), (0, 0)):
            for mark in ("put", "gone", None):
                self.assertEqual(raised(self.page.with_marks, [((0,), "put"), (row, mark)]), ("BadPage", "outside"))
        self.assertEqual(self.page.marks, (((1,), "put"), ((2,), "gone"), ((3,), "put")))

    def test_against_a_plain_dict(self):
        chance = seeded(36)
        rows = rows_of((3, 3))
        for _ in range(200):
            held = [row for row in rows if chance.random() < 0.6] or rows
            single = [Box(row, [value + 1 for value in row]) for row in held]
            marks = {row: chance.choice(["put", "gone"]) for row in held if chance.random() < 0.5}
            page = Page(single, list(marks.items()))
            changes = [(chance.choice(held), chance.choice(["put", "gone", None])) for _ in range(chance.randint(0, 9))]
            marks.update(changes)
            expected = tuple(sorted((row, mark) for row, mark in marks.items() if mark))
            self.assertEqual(page.with_marks(changes).marks, expected)
            self.assertEqual(page.with_marks(changes).rows, page.rows)


if __name__ == "__main__":
    unittest.main()
