"""Boxes and their points: [1.3] to [1.7]."""

import itertools
import unittest

from fewfetches.boxes import Box, box_less, join_along, meet_boxes, points_of, whole_box
from tests.helpers import no_integers, no_sequences, only_tuples, points_in, raised, seeded


def boxes_of(columns, top):
    """All boxes with values below top."""
    ranges = [(low, high) for low in range(top) for high in range(low + 1, top + 1)]
    return [Box([low for low, _ in chosen], [high for _, high in chosen])
            for chosen in itertools.product(ranges, repeat=columns)]


def plain_points(box):
    return points_in(box.lows, box.highs)


def some_pairs(columns, top, many):
    """Some couples of boxes, the same in every run; all of them if there are few."""
    boxes = boxes_of(columns, top)
    pairs = list(itertools.product(boxes, repeat=2))
    return pairs if len(pairs) <= many else seeded(columns).sample(pairs, many)


PAIRS = some_pairs(0, 1, 9) + some_pairs(1, 5, 400) + some_pairs(2, 3, 1500) + some_pairs(3, 2, 800)


class TestBox(unittest.TestCase):
    def test_attributes(self):
        box = Box([0, 3], [2, 7])
        self.assertEqual((box.lows, box.highs, box.size, box.told), ((0, 3), (2, 7), 8, ((0, 3), (2, 7))))
        self.assertTrue(only_tuples(box.told))
        self.assertIsInstance(box.lows, tuple)
        self.assertIsInstance(box.highs, tuple)

    def test_lists_are_not_kept(self):
        lows, highs = [0, 1], [2, 3]
        box = Box(lows, highs)
        lows[0] = 1
        highs.append(9)
        self.assertEqual(box.told, ((0, 1), (2, 3)))
        self.assertEqual((lows, highs), ([1, 1], [2, 3, 9]))

    def test_box_of_no_columns(self):
        box = Box((), [])
        self.assertEqual((box.lows, box.highs, box.size, box.told), ((), (), 1, ((), ())))
        self.assertIs(box.holds(()), True)
        self.assertIs(box.holds((0,)), False)
        self.assertEqual(list(points_of(box)), [()])

    def test_box_of_five_columns(self):
        box = Box((0, 1, 2, 3, 4), (1, 3, 4, 5, 6))
        self.assertEqual(box.size, 1 * 2 * 2 * 2 * 2)
        self.assertEqual(list(points_of(box)), plain_points(box))

    def test_edges_of_values(self):
        self.assertEqual(Box((63,), (64,)).size, 1)
        self.assertEqual(Box((0,), (64,)).size, 64)
        self.assertEqual(Box((0,) * 5, (64,) * 5).size, 64 ** 5)

    def test_lows(self):
        for thing in no_sequences():
            self.assertEqual(raised(Box, thing, (1,)), ("BadBox", "lows", 0))
            self.assertEqual(raised(Box, thing, thing), ("BadBox", "lows", 0))
        self.assertEqual(raised(Box, (0,) * 6, (1,) * 6), ("BadBox", "lows", 0))
        self.assertEqual(raised(Box, [0] * 7, None), ("BadBox", "lows", 0))

    def test_highs(self):
        for thing in no_sequences():
            self.assertEqual(raised(Box, (0,), thing), ("BadBox", "highs", 0))
        for highs in ((), (1, 1), [1, 1, 1]):
            self.assertEqual(raised(Box, (0,), highs), ("BadBox", "highs", 0))
        self.assertEqual(raised(Box, (-1,), (1, 1)), ("BadBox", "highs", 0))
        self.assertEqual(raised(Box, (), (1,)), ("BadBox", "highs", 0))
        self.assertEqual(raised(Box, (), "" ), ("BadBox", "highs", 0))

    def test_low(self):
        for low in (-1, 64, 100):
            self.assertEqual(raised(Box, (low,), (64,)), ("BadBox", "low", 0))
            self.assertEqual(raised(Box, (0, 0, low), (1, 1, 0)), ("BadBox", "low", 2))
        for thing in no_integers():
            self.assertEqual(raised(Box, (0, thing), (1, 2)), ("BadBox", "low", 1))

    def test_high(self):
        for low, high in ((0, 0), (3, 3), (3, 2), (63, 63), (0, 65), (63, 65), (0, -1)):
            self.assertEqual(raised(Box, (low,), (high,)), ("BadBox", "high", 0))
            self.assertEqual(raised(Box, (0, low), (1, high)), ("BadBox", "high", 1))
        for thing in no_integers():
            self.assertEqual(raised(Box, (0, 0), (1, thing)), ("BadBox", "high", 1))

    def test_faults_are_told_column_by_column(self):
        self.assertEqual(raised(Box, (0, -1), (0, 1)), ("BadBox", "high", 0))
        self.assertEqual(raised(Box, (0, 64, 0), (1, 64, 0)), ("BadBox", "low", 1))
        self.assertEqual(raised(Box, (0, 1, -1), (1, 1, 0)), ("BadBox", "high", 1))

    def test_holds_exactly_the_points(self):
        for box in (Box((1,), (3,)), Box((0, 2), (2, 3)), Box((1, 0, 1), (2, 2, 3))):
            columns = len(box.lows)
            held = set(plain_points(box))
            for point in itertools.product(range(-1, 5), repeat=columns):
                self.assertIs(box.holds(point), point in held)
                self.assertIs(box.holds(list(point)), point in held)
            for other in range(6):
                if other != columns:
                    self.assertIs(box.holds((1,) * other), False)
                    self.assertIs(box.holds([1] * other), False)

    def test_of_told(self):
        for box in boxes_of(2, 3) + [Box((), ())]:
            again = Box.of_told(box.told)
            self.assertIsInstance(again, Box)
            self.assertEqual(again, box)
            self.assertEqual(again.told, box.told)
        self.assertEqual(Box.of_told([[0, 1], [2, 3]]), Box((0, 1), (2, 3)))
        self.assertEqual(raised(Box.of_told, ((0, 5), (1, 5))), ("BadBox", "high", 1))

    def test_equal_exactly_if_lows_and_highs_are(self):
        boxes = boxes_of(1, 4) + boxes_of(2, 3) + [Box((), ())]
        for one in boxes:
            for other in boxes:
                same = one.lows == other.lows and one.highs == other.highs
                self.assertIs(one == other, same)
                self.assertIs(one != other, not same)
        self.assertEqual(Box([0], [1]), Box((0,), (1,)))

    def test_unlike_things_are_never_equal(self):
        box = Box((0,), (1,))
        for thing in (None, 0, box.told, list(box.told), (0,), "box", [box]):
            self.assertIs(box == thing, False)
            self.assertIs(box != thing, True)


class TestPoints(unittest.TestCase):
    def test_whole_box(self):
        for widths in ((), (1,), (64,), (2, 3), [2, 3, 4], (1, 2, 3, 4, 5)):
            box = whole_box(widths)
            self.assertEqual(box.told, ((0,) * len(widths), tuple(widths)))

    def test_points_ascend(self):
        boxes = boxes_of(0, 1) + boxes_of(1, 4) + boxes_of(2, 3) + boxes_of(3, 2)
        for box in boxes + [Box((62, 0), (64, 2)), whole_box((3, 1, 2, 2))]:
            points = list(points_of(box))
            self.assertEqual(points, plain_points(box))
            self.assertEqual(points, sorted(points))
            self.assertEqual(len(points), box.size)
            self.assertTrue(all(isinstance(point, tuple) for point in points))

    def test_points_come_one_by_one(self):
        points = points_of(Box((0,) * 5, (64,) * 5))
        self.assertIs(iter(points), points)
        self.assertEqual(next(points), (0, 0, 0, 0, 0))
        self.assertEqual(next(points), (0, 0, 0, 0, 1))

    def test_all_rows(self):
        self.assertEqual(len(list(points_of(whole_box((64, 64))))), 4096)


class TestTwoBoxes(unittest.TestCase):
    def test_unlike_numbers_of_columns(self):
        boxes = [Box((0,) * columns, (1,) * columns) for columns in range(6)]
        for one in boxes:
            for other in boxes:
                if len(one.lows) != len(other.lows):
                    self.assertEqual(raised(meet_boxes, one, other), ("UnlikeBoxes",))
                    self.assertEqual(raised(box_less, one, other), ("UnlikeBoxes",))
                    for column in (0, -1, 9, None, "a"):
                        self.assertEqual(raised(join_along, one, other, column), ("UnlikeBoxes",))

    def test_meet_holds_the_common_points(self):
        for one, other in PAIRS:
            common = sorted(set(plain_points(one)) & set(plain_points(other)))
            meet = meet_boxes(one, other)
            if common:
                self.assertEqual(plain_points(meet), common)
            else:
                self.assertIsNone(meet)

    def test_meet_of_no_columns(self):
        self.assertEqual(meet_boxes(Box((), ()), Box((), ())), Box((), ()))

    def test_boxes_that_touch_do_not_meet(self):
        self.assertIsNone(meet_boxes(Box((0,), (2,)), Box((2,), (3,))))
        self.assertEqual(meet_boxes(Box((0,), (3,)), Box((2,), (4,))), Box((2,), (3,)))

    def test_bad_column(self):
        for columns in range(6):
            box = Box((0,) * columns, (2,) * columns)
            for column in [-1, columns, columns + 1]:
                self.assertEqual(raised(join_along, box, box, column), ("BadColumn", column))
            for thing in no_integers():
                error = raised(join_along, box, box, thing)
                self.assertEqual(error[0], "BadColumn")
                self.assertIs(error[1], thing)
            for column in range(columns):
                self.assertEqual(join_along(box, box, column), box)

    def test_bad_column_comes_ahead_of_none(self):
        self.assertEqual(raised(join_along, Box((0,), (1,)), Box((5,), (6,)), 1), ("BadColumn", 1))

    def test_join_example(self):
        one, other = Box((0, 0), (2, 4)), Box((2, 1), (5, 3))
        self.assertEqual(join_along(one, other, 0), Box((0, 1), (5, 3)))
        self.assertIsNone(join_along(one, other, 1))
        self.assertEqual(join_along(other, one, 0), Box((0, 1), (5, 3)))

    def test_join_against_the_ranges(self):
        for one, other in PAIRS:
            for column in range(len(one.lows)):
                spans = [(set(range(a, b)), set(range(c, d)))
                         for a, b, c, d in zip(one.lows, one.highs, other.lows, other.highs)]
                mine, theirs = spans[column]
                along = mine | theirs
                gap = set(range(min(along), max(along) + 1)) - along
                sides = [x & y for at, (x, y) in enumerate(spans) if at != column]
                join = join_along(one, other, column)
                if gap or not all(sides):
                    self.assertIsNone(join)
                    continue
                ranges = [sorted(along if at == column else x & y) for at, (x, y) in enumerate(spans)]
                self.assertEqual(plain_points(join), list(itertools.product(*ranges)))
                both = set(plain_points(one)) | set(plain_points(other))
                self.assertTrue(set(plain_points(join)) <= both)
                if all(x == y for at, (x, y) in enumerate(spans) if at != column):
                    self.assertEqual(set(plain_points(join)), both)

    def test_join_does_not_bridge_a_gap(self):
        self.assertIsNone(join_along(Box((0,), (2,)), Box((3,), (4,)), 0))
        self.assertEqual(join_along(Box((0,), (2,)), Box((2,), (4,)), 0), Box((0,), (4,)))
        self.assertEqual(join_along(Box((0,), (4,)), Box((1,), (2,)), 0), Box((0,), (4,)))

    def test_less_holds_exactly_the_rest(self):
        for one, other in PAIRS:
            rest = sorted(set(plain_points(one)) - set(plain_points(other)))
            parts = box_less(one, other)
            self.assertIsInstance(parts, tuple)
            found = [point for part in parts for point in plain_points(part)]
            self.assertEqual(sorted(found), rest)
            lows = [part.lows for part in parts]
            self.assertEqual(lows, sorted(lows))
            if not set(plain_points(one)) & set(plain_points(other)):
                self.assertEqual(parts, (one,))
            if not rest:
                self.assertEqual(parts, ())
            self.assertLessEqual(len(parts), max(1, 2 * len(one.lows)))

    def test_less_is_cut_column_by_column(self):
        one, other = Box((0, 0), (3, 3)), Box((1, 1), (2, 2))
        self.assertEqual([part.told for part in box_less(one, other)],
                         [((0, 0), (1, 3)), ((1, 0), (2, 1)), ((1, 2), (2, 3)), ((2, 0), (3, 3))])
        one, other = Box((0, 0, 0), (2, 2, 2)), Box((1, 0, 1), (9, 1, 9))
        self.assertEqual([part.told for part in box_less(one, other)],
                         [((0, 0, 0), (1, 2, 2)), ((1, 0, 0), (2, 1, 1)), ((1, 1, 0), (2, 2, 2))])

    def test_less_of_the_same_and_of_no_columns(self):
        self.assertEqual(box_less(Box((), ()), Box((), ())), ())
        self.assertEqual(box_less(Box((1, 1), (3, 3)), Box((0, 0), (5, 5))), ())
        self.assertEqual(box_less(Box((1,), (3,)), Box((3,), (5,))), (Box((1,), (3,)),))

    def test_less_of_five_columns(self):
        one, other = Box((0,) * 5, (3,) * 5), Box((1,) * 5, (2,) * 5)
        parts = box_less(one, other)
        self.assertEqual(len(parts), 10)
        found = sorted(point for part in parts for point in plain_points(part))
        self.assertEqual(found, [point for point in plain_points(one) if point != (1,) * 5])


if __name__ == "__main__":
    unittest.main()
