"""Building, changing and refining indexes: [4.1], [4.6] to [4.9]."""

import copy
import unittest

from fewfetches.boxes import Box
from fewfetches.indexes import build_index, change_index, refined_index
from fewfetches.layouts import check_kind, first_places, row_key
from fewfetches.pages import Page
from fewfetches.partings import is_finer, marks_of, parting_fault
from tests.helpers import (all_kinds, no_integers, no_sequences, only_tuples, page_of, plain_cut, raised,
                           random_index, random_marks, rows_of, seeded)

LINE = ("stretch", (0,))


def shown(index):
    """The pages as couples (rows, marks)."""
    return [(page.rows, page.marks) for page in index]


def whole(low, high):
    return tuple((value,) for value in range(low, high))


def plain_parts(kind, rows, marks, room):
    """The lots into which [4.6] cuts the rows."""
    marked = [row for row in rows if row in marks]
    if len(marked) <= room:
        return [tuple(sorted(rows))]
    return [part for half in plain_cut(kind, rows, marked) for part in plain_parts(kind, half, marks, room)]


def plain_build(kind, widths, marks, room):
    """The index by the words of [4.6], as couples (rows, marks)."""
    marks = dict(marks)
    lots = [part for lot in first_places(kind, widths) for part in plain_parts(kind, lot, marks, room)]
    return [(lot, tuple((row, marks[row]) for row in lot if row in marks)) for lot in sorted(lots)]


def plain_change(kind, room, index, changes):
    """The changed index by the words of [4.7], as couples (rows, marks)."""
    lots = []
    for page in index:
        marks = dict(page.marks)
        for row, mark in changes:
            if row in page.rows:
                marks[row] = mark
        marks = {row: mark for row, mark in marks.items() if mark}
        touched = marks != dict(page.marks)
        parts = plain_parts(kind, page.rows, marks, room) if touched else [page.rows]
        lots += [[part, {row: marks[row] for row in part if row in marks}, touched] for part in parts]
    lots.sort(key=lambda lot: min(row_key(kind, row) for row in lot[0]))
    while plain_join(lots, room):
        pass
    return sorted((tuple(sorted(rows)), tuple(sorted(marks.items()))) for rows, marks, _ in lots)


def plain_join(lots, room):
    """Joins the first touched lot that has few marks and can be joined; whether there was one."""
    for at, (rows, marks, touched) in enumerate(lots):
        if touched and 2 * len(marks) < room:
            for other in (at + 1, at - 1):
                if 0 <= other < len(lots) and len(marks) + len(lots[other][1]) <= room:
                    joined = [tuple(rows) + tuple(lots[other][0]), {**marks, **lots[other][1]}, True]
                    lots[min(at, other):max(at, other) + 1] = [joined]
                    return True
    return False


class TestBuild(unittest.TestCase):
    def test_example(self):
        index = build_index(LINE, (6,), [((value,), "put") for value in (1, 3, 4, 5)], 2)
        self.assertEqual(shown(index), [(whole(0, 4), (((1,), "put"), ((3,), "put"))),
                                        (whole(4, 6), (((4,), "put"), ((5,), "put")))])
        self.assertIsInstance(index, tuple)
        self.assertTrue(all(isinstance(page, Page) for page in index))

    def test_no_marks_leave_the_first_lots(self):
        for widths in ((5,), (3, 3), (2, 3, 2)):
            for kind in all_kinds(widths):
                for room in (1, 4096):
                    index = build_index(kind, widths, (), room)
                    self.assertEqual([page.rows for page in index], list(first_places(kind, widths)))
                    self.assertEqual(marks_of(index), ())

    def test_every_kind_room_and_marks(self):
        chance = seeded(46)
        for widths in ((9,), (4, 4), (2, 7), (3, 2, 3)):
            rows = rows_of(widths)
            for kind in all_kinds(widths):
                for share in (0.2, 0.6, 1):
                    marks = random_marks(chance, rows, share)
                    finer = None
                    for room in (1, 2, 3, 5, 4096):
                        index = build_index(kind, widths, marks, room)
                        self.assertEqual(shown(index), plain_build(kind, widths, marks, room))
                        self.assertIsNone(parting_fault(widths, index))
                        self.assertEqual(marks_of(index), marks)
                        self.assertTrue(all(len(page.marks) <= room for page in index))
                        self.assertEqual([page.first for page in index], sorted(page.first for page in index))
                        if finer is not None:
                            self.assertIs(is_finer(finer, index), True)
                        finer = index

    def test_room_one_and_room_4096(self):
        marks = [(row, "gone") for row in rows_of((4, 4))]
        for kind in all_kinds((4, 4)):
            self.assertEqual(len(build_index(kind, (4, 4), marks, 1)), 16)
        self.assertEqual(len(build_index(("stretch", (0, 1)), (4, 4), marks, 4096)), 1)
        self.assertEqual(len(build_index(("stretch", (0, 1)), (4, 4), marks, 16)), 1)
        self.assertEqual(len(build_index(("stretch", (0, 1)), (4, 4), marks, 15)), 2)

    def test_four_thousand_marks(self):
        marks = [(row, "put") for row in rows_of((64, 64))]
        index = build_index(("split", (1, 0)), (64, 64), marks, 1)
        self.assertEqual(len(index), 4096)
        self.assertIsNone(parting_fault((64, 64), index))

    def test_lists_at_every_depth(self):
        marks = [[[1, 1], "put"], ([0, 1], "gone"), [(1, 0), "put"]]
        before = copy.deepcopy(marks)
        index = build_index(["split", [1, 0]], [2, 2], marks, 1)
        self.assertEqual(index, build_index(("split", (1, 0)), (2, 2), tuple((tuple(row), mark) for row, mark in marks),
                                            1))
        self.assertEqual(marks, before)
        self.assertTrue(only_tuples([page.told for page in index][0]))

    def test_faults(self):
        good = [((0,), "put")]
        for kind in no_sequences() + [("stretch", (1,)), ("grid", (0,)), ("lots", True), ("given", ())]:
            self.assertEqual(raised(build_index, kind, (4,), None, None), ("BadIndex", "kind"))
        for room in [0, -1, 4097] + no_integers():
            self.assertEqual(raised(build_index, LINE, (4,), None, room), ("BadIndex", "room"))
        for marks in no_sequences() + [[3], [((0,), None)], good * 2, [((0,), "x")], [((True,), "put")], [good],
                                       good + [((4,), "put")], [((-1,), "put")], [((), "put")], [((0, 0), "gone")]]:
            self.assertEqual(raised(build_index, LINE, (4,), marks, 1), ("BadIndex", "marks"))


class TestChange(unittest.TestCase):
    def setUp(self):
        self.index = build_index(LINE, (6,), [((value,), "put") for value in (1, 3, 4, 5)], 2)

    def test_example(self):
        newer, gone = change_index(LINE, (6,), 2, self.index, [((0,), "put")])
        self.assertEqual(shown(newer), [(whole(0, 1), (((0,), "put"),)),
                                        (whole(1, 4), (((1,), "put"), ((3,), "put"))),
                                        (whole(4, 6), (((4,), "put"), ((5,), "put")))])
        self.assertEqual(gone, self.index[:1])
        again, gone = change_index(LINE, (6,), 2, newer, [((1,), None), ((3,), None)])
        self.assertEqual(shown(again), [(whole(0, 1), (((0,), "put"),)),
                                        (whole(1, 6), (((4,), "put"), ((5,), "put")))])
        self.assertEqual(gone, newer[1:])

    def test_no_mark_differs(self):
        for changes in ((), [], [((1,), "put")], [((0,), None)], [((1,), None), ((1,), "put")]):
            newer, gone = change_index(LINE, (6,), 2, self.index, changes)
            self.assertEqual((newer, gone), (self.index, ()))
            self.assertIsInstance(newer, tuple)
            self.assertIsInstance(gone, tuple)

    def test_pages_that_are_not_touched_stay_whatever_their_marks(self):
        index = (page_of(whole(0, 2)), page_of(whole(2, 6), [((value,), "put") for value in (2, 3, 4, 5)]))
        newer, gone = change_index(LINE, (6,), 2, index, [((0,), "put")])
        self.assertEqual(newer, (page_of(whole(0, 2), [((0,), "put")]), index[1]))
        self.assertEqual(gone, index[:1])

    def test_the_next_page_comes_ahead_of_the_one_ahead(self):
        index = (page_of(whole(0, 2), [((0,), "put")]), page_of(whole(2, 4), [((2,), "put")]),
                 page_of(whole(4, 6), [((4,), "put")]))
        newer, gone = change_index(LINE, (6,), 3, index, [((2,), None)])
        self.assertEqual(shown(newer), [(whole(0, 6), (((0,), "put"), ((4,), "put")))])
        self.assertEqual(gone, index)
        newer, gone = change_index(LINE, (6,), 2, index, [((2,), None)])
        self.assertEqual(shown(newer), [(whole(0, 2), (((0,), "put"),)), (whole(2, 6), (((4,), "put"),))])
        self.assertEqual(gone, index[1:])

    def test_the_one_ahead_is_taken_if_the_next_is_too_full(self):
        index = (page_of(whole(0, 2), [((0,), "put")]), page_of(whole(2, 4), [((2,), "put"), ((3,), "put")]),
                 page_of(whole(4, 6), [((4,), "put"), ((5,), "put")]))
        newer, gone = change_index(LINE, (6,), 3, index, [((3,), None)])
        self.assertEqual(shown(newer), [(whole(0, 2), (((0,), "put"),)),
                                        (whole(2, 6), (((2,), "put"), ((4,), "put"), ((5,), "put")))])
        self.assertEqual(gone, index[1:])
        newer, gone = change_index(LINE, (6,), 2, index, [((2,), None), ((3,), None)])
        self.assertEqual(shown(newer), [(whole(0, 2), (((0,), "put"),)), (whole(2, 6), index[2].marks)])
        full = (page_of(whole(0, 2), [((0,), "put")]), page_of(whole(2, 4), [((2,), "put"), ((3,), "put")]),
                page_of(whole(4, 6), [((4,), "put"), ((5,), "gone")]))
        newer, gone = change_index(LINE, (6,), 3, full, [((0,), None), ((2,), None)])
        self.assertEqual(shown(newer), [(whole(0, 6), (((3,), "put"), ((4,), "put"), ((5,), "gone")))])

    def test_joining_with_the_one_ahead_alone(self):
        index = (page_of(whole(0, 2)), page_of(whole(2, 3), [((2,), "put")]),
                 page_of(whole(3, 6), [((value,), "put") for value in (3, 4, 5)]))
        newer, gone = change_index(LINE, (6,), 2, index, [((2,), None)])
        self.assertEqual(shown(newer), [(whole(0, 3), ()), (whole(3, 6), index[2].marks)])
        self.assertEqual(gone, index[:2])

    def test_half_of_the_room_is_enough(self):
        index = (page_of(whole(0, 2), [((0,), "put"), ((1,), "put")]), page_of(whole(2, 4)))
        for room, joined in ((2, False), (3, True)):
            newer, _ = change_index(LINE, (4,), room, index, [((1,), None)])
            self.assertEqual(len(newer) == 1, joined)

    def test_pages_stand_in_order_of_their_least_keys(self):
        kind = ("stretch", (1, 0))
        index = (page_of([(0, 0)], [((0, 0), "put")]), page_of([(0, 1)], [((0, 1), "put")]),
                 page_of([(1, 0)], [((1, 0), "put")]), page_of([(1, 1)], [((1, 1), "put")]))
        newer, gone = change_index(kind, (2, 2), 1, index, [((0, 0), None)])
        self.assertEqual([page.rows for page in newer], [((0, 0), (1, 0)), ((0, 1),), ((1, 1),)])
        self.assertEqual(gone, (index[0], index[2]))
        newer, gone = change_index(("split", (1, 0)), (2, 2), 1, index, [((0, 0), None)])
        self.assertEqual([page.rows for page in newer], [((0, 0), (0, 1)), ((1, 0),), ((1, 1),)])

    def test_joining_goes_on_from_the_joined_page(self):
        index = tuple(page_of([(value,)]) for value in range(6))
        newer, gone = change_index(LINE, (6,), 4096, index, [((3,), "gone")])
        self.assertEqual(shown(newer), [(whole(0, 6), (((3,), "gone"),))])
        self.assertEqual(gone, index)

    def test_a_page_that_comes_back_is_not_gone(self):
        index = (page_of(whole(0, 2), [((0,), "put")]), page_of(whole(2, 4), [((2,), "put")]))
        newer, gone = change_index(LINE, (4,), 1, index, [((1,), "put")])
        self.assertEqual([page.rows for page in newer], [whole(0, 1), whole(1, 2), whole(2, 4)])
        self.assertEqual(gone, index[:1])

    def test_against_the_words(self):
        chance = seeded(47)
        for widths in ((8,), (3, 4), (2, 3, 2)):
            rows = rows_of(widths)
            for kind in all_kinds(widths):
                for _ in range(40):
                    marks = random_marks(chance, rows, chance.random())
                    index = build_index(kind, widths, marks, chance.choice([1, 2, 4]))
                    if chance.random() < 0.5:
                        index = random_index(chance, widths, marks, 9)
                    room = chance.choice([1, 2, 3, 5, 4096])
                    changes = [(chance.choice(rows), chance.choice(["put", "gone", None]))
                               for _ in range(chance.choice([0, 1, 1, 2, 5, 20]))]
                    self.hold_against_the_words(kind, widths, room, index, changes)

    def hold_against_the_words(self, kind, widths, room, index, changes):
        elder = shown(index)
        marks = dict(marks_of(index))
        newer, gone = change_index(kind, widths, room, index, changes)
        self.assertEqual(shown(newer), plain_change(kind, room, index, changes))
        marks.update(changes)
        self.assertEqual(marks_of(newer), tuple(sorted((row, mark) for row, mark in marks.items() if mark)))
        self.assertIsNone(parting_fault(widths, newer))
        self.assertEqual(shown(gone), [page for page in elder if page not in shown(newer)])
        self.assertTrue(all(len(page.marks) <= room for page in newer if (page.rows, page.marks) not in elder))
        self.assertEqual(shown(index), elder)
        as_lists = change_index(list(kind), list(widths), room, list(index), [[list(row), mark] for row, mark in changes])
        self.assertEqual(as_lists, (newer, gone))

    def test_faults(self):
        good = [((0,), "put")]
        for kind in no_sequences() + [("stretch", (1,)), ("grid", (0,)), ("lots", 0), ("given", ())]:
            self.assertEqual(raised(change_index, kind, (6,), None, self.index, None), ("BadIndex", "kind"))
        for room in [0, 4097] + no_integers():
            self.assertEqual(raised(change_index, LINE, (6,), room, self.index, None), ("BadIndex", "room"))
        for changes in no_sequences() + [[3], [((0,), "x")], [((True,), "put")], good + [((6,), "put")],
                                         [((-1,), None)], [((), "put")], [((0, 0), None)], [good]]:
            self.assertEqual(raised(change_index, LINE, (6,), 2, self.index, changes), ("BadIndex", "marks"))

    def test_given_kind(self):
        kind = check_kind(("given", [[Box((0,), (1,)), Box((3,), (4,))], [Box((1,), (3,))]]), (4,))
        index = build_index(kind, (4,), [((0,), "put"), ((3,), "put")], 1)
        self.assertEqual([page.rows for page in index], [((0,),), ((1,), (2,)), ((3,),)])
        newer, gone = change_index(kind, (4,), 1, index, [((3,), None), ((1,), "gone")])
        self.assertEqual(shown(newer), [(((0,),), (((0,), "put"),)), (((1,), (2,), (3,)), (((1,), "gone"),))])
        self.assertEqual(gone, index[1:])


class TestRefined(unittest.TestCase):
    def test_one_page_for_each_row(self):
        chance = seeded(49)
        for widths in ((1,), (6,), (3, 3), (2, 2, 2)):
            for _ in range(20):
                marks = random_marks(chance, rows_of(widths))
                index = random_index(chance, widths, marks)
                refined = refined_index(index)
                self.assertIsInstance(refined, tuple)
                expected = [((row,), tuple(mark for mark in marks if mark[0] == row)) for row in rows_of(widths)]
                self.assertEqual(shown(refined), expected)
                self.assertEqual(refined_index(list(index)), refined)
                self.assertEqual(refined_index(refined), refined)


if __name__ == "__main__":
    unittest.main()
