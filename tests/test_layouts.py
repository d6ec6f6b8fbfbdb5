"""Kinds, rooms, first lots and cuts: [4.2] to [4.5]."""

import unittest

from fewfetches.boxes import Box
from fewfetches.layouts import check_kind, check_room, cut_rows, first_places, row_key
from tests.helpers import no_integers, no_sequences, only_tuples, plain_cut, raised, rows_of, seeded, unchanged


class TestCheckKind(unittest.TestCase):
    def test_right_kinds(self):
        for kind, widths in ((("stretch", (0,)), (4,)), (("stretch", (2, 0, 1)), (2, 2, 2)), (("split", (1, 0)), (3, 3)),
                             (("grid", (1, 64)), (9, 9)), (("grid", (7,)), (3,)), (("lots", 1), (3,)),
                             (("lots", 4096), (3, 3))):
            word, told = kind
            self.assertEqual(check_kind(kind, widths), kind)
            self.assertEqual(check_kind(list(kind), list(widths)), kind)
            if isinstance(told, tuple):
                checked = unchanged(self, check_kind, [word, list(told)], list(widths))
                self.assertEqual(checked, kind)
                self.assertTrue(only_tuples(checked))
            self.assertIsInstance(check_kind([word, told], widths), tuple)

    def test_given_places_come_in_slab_form_and_order(self):
        kind = ["given", [[Box((1,), (2,)), Box((2,), (3,))], (Box((4,), (5,)), Box((0,), (1,))), [Box((3,), (4,))]]]
        checked = unchanged(self, check_kind, kind, (5,))
        self.assertEqual(checked, ("given", ((Box((0,), (1,)), Box((4,), (5,))), (Box((1,), (3,)),),
                                             (Box((3,), (4,)),))))
        self.assertTrue(only_tuples(checked))
        self.assertEqual(check_kind(checked, (5,)), checked)
        kind[1][0].append(Box((9,), (10,)))
        self.assertEqual(len(checked[1][1]), 1)

    def test_given_places_are_ordered_by_their_least_rows(self):
        low, high = [Box((1, 0), (2, 2)), Box((0, 1), (1, 2))], [Box((0, 0), (1, 1))]
        self.assertEqual(check_kind(("given", (low, high)), (2, 2)),
                         ("given", ((Box((0, 0), (1, 1)),), (Box((0, 1), (1, 2)), Box((1, 0), (2, 2))))))

    def test_no_kind_at_all(self):
        wrong = [(), ("stretch",), ("stretch", (0,), 1), ["lots", 2, 2], ("", 1), ("Lots", 1), ("lot", 1), (b"lots", 1),
                 (0, 1), (None, None), (True, 1), (["lots"], 1), ({}, 1), (("lots", 1), 1), "lo"]
        for kind in no_sequences() + wrong:
            self.assertEqual(raised(check_kind, kind, (4,)), ("BadIndex", "kind"))

    def test_columns(self):
        for word in ("stretch", "split"):
            for columns in ((), (0,), (0, 0), (1, 1), (0, 2), (1, 2), (0, 1, 2), (-1, 0), (0, 1, 1), 0, 1, "01",
                            (False, True), (0, True), (0.0, 1), ("0", "1"), {0: 0, 1: 1}, None, [[0, 1]]):
                self.assertEqual(raised(check_kind, (word, columns), (4, 4)), ("BadIndex", "kind"))
            for thing in no_integers():
                self.assertEqual(raised(check_kind, (word, (thing,)), (4,)), ("BadIndex", "kind"))
            for thing in no_sequences():
                self.assertEqual(raised(check_kind, (word, thing), (4,)), ("BadIndex", "kind"))

    def test_steps(self):
        for step in (1, 64):
            self.assertEqual(check_kind(("grid", [step, 1]), (4, 4)), ("grid", (step, 1)))
        for steps in ((), (1,), (1, 1, 1), (0, 1), (1, 65), (1, -1), 1, "11", None):
            self.assertEqual(raised(check_kind, ("grid", steps), (4, 4)), ("BadIndex", "kind"))
        for thing in no_integers():
            self.assertEqual(raised(check_kind, ("grid", [1, thing]), (4, 4)), ("BadIndex", "kind"))
        for thing in no_sequences():
            self.assertEqual(raised(check_kind, ("grid", thing), (4,)), ("BadIndex", "kind"))

    def test_divisor(self):
        for divisor in (0, -1, 4097, (1,), [1], "1"):
            self.assertEqual(raised(check_kind, ("lots", divisor), (4,)), ("BadIndex", "kind"))
        for thing in no_integers():
            self.assertEqual(raised(check_kind, ("lots", thing), (4,)), ("BadIndex", "kind"))

    def test_places(self):
        whole, low, high = Box((0,), (4,)), Box((0,), (2,)), Box((2,), (4,))
        self.assertEqual(check_kind(("given", [[low], [high]]), (4,)), ("given", ((low,), (high,))))
        wrong = [[], (), [[]], [whole], [[whole], []], [[whole], whole], [[whole], None], [[low]], [[high]],
                 [[low], [low], [high]], [[whole], [high]], [[low, high, low]], [[whole, Box((0, 0), (1, 1))]],
                 [[Box((0,), (5,))]], [[whole], [Box((4,), (5,))]], [[Box((0, 0), (4, 1))]], [[Box((), ())]],
                 [[((0,), (4,))]], [[(0,), (4,)]], [{whole.told: 1}], "ab"]
        for places in no_sequences() + wrong:
            self.assertEqual(raised(check_kind, ("given", places), (4,)), ("BadIndex", "kind"))
        for thing in no_sequences():
            self.assertEqual(raised(check_kind, ("given", [thing]), (4,)), ("BadIndex", "kind"))


class TestCheckRoom(unittest.TestCase):
    def test_room(self):
        for room in (1, 2, 4096):
            self.assertEqual(check_room(room), room)
        for room in [0, -1, 4097] + no_integers():
            self.assertEqual(raised(check_room, room), ("BadIndex", "room"))


class TestRowKey(unittest.TestCase):
    def test_stretch_takes_the_told_order(self):
        self.assertEqual(row_key(("stretch", (2, 0, 1)), (5, 6, 7)), (7, 5, 6))
        self.assertEqual(row_key(["stretch", [1, 0]], [5, 6]), (6, 5))
        self.assertIsInstance(row_key(["stretch", [1, 0]], [5, 6]), tuple)

    def test_every_other_kind_takes_the_row(self):
        for kind in (("split", (1, 0)), ("grid", (2, 2)), ("lots", 3), ("given", ((Box((0, 0), (9, 9)),),))):
            self.assertEqual(row_key(kind, (5, 6)), (5, 6))
            self.assertEqual(row_key(list(kind), [5, 6]), (5, 6))


class TestFirstPlaces(unittest.TestCase):
    def test_one_lot(self):
        for widths in ((4,), (2, 3), (2, 2, 2)):
            columns = tuple(reversed(range(len(widths))))
            for word in ("stretch", "split"):
                self.assertEqual(first_places((word, columns), widths), (tuple(rows_of(widths)),))
                self.assertEqual(first_places([word, list(columns)], list(widths)), (tuple(rows_of(widths)),))

    def test_grid(self):
        self.assertEqual(first_places(("grid", (2, 3)), (3, 4)),
                         (((0, 0), (0, 1), (0, 2), (1, 0), (1, 1), (1, 2)), ((0, 3), (1, 3)),
                          ((2, 0), (2, 1), (2, 2)), ((2, 3),)))
        self.assertEqual(first_places(("grid", (64, 64)), (2, 2)), (tuple(rows_of((2, 2))),))
        self.assertEqual(first_places(["grid", [1, 1]], (2, 2)), (((0, 0),), ((0, 1),), ((1, 0),), ((1, 1),)))

    def test_lots(self):
        self.assertEqual(first_places(("lots", 3), (7,)), (((0,), (3,), (6,)), ((1,), (4,)), ((2,), (5,))))
        self.assertEqual(first_places(("lots", 4), (2, 3)), (((0, 0), (1, 1)), ((0, 1), (1, 2)), ((0, 2),), ((1, 0),)))
        self.assertEqual(first_places(("lots", 4096), (3,)), (((0,),), ((1,),), ((2,),)))
        self.assertEqual(first_places(("lots", 1), (3,)), (((0,), (1,), (2,)),))

    def test_given(self):
        kind = ["given", [[Box((1,), (2,)), Box((3,), (4,))], [Box((2,), (3,)), Box((0,), (1,))]]]
        self.assertEqual(unchanged(self, first_places, kind, [4]), (((0,), (2,)), ((1,), (3,))))
        self.assertEqual(first_places(check_kind(kind, (4,)), (4,)), (((0,), (2,)), ((1,), (3,))))

    def test_each_row_lies_in_one_lot(self):
        for widths in ((7,), (3, 4), (2, 3, 3)):
            columns = tuple(range(len(widths)))
            for kind in (("stretch", columns), ("split", columns), ("grid", (2,) * len(widths)), ("lots", 5)):
                lots = first_places(kind, widths)
                self.assertTrue(only_tuples(lots))
                self.assertEqual(sorted(row for lot in lots for row in lot), rows_of(widths))
                self.assertTrue(all(list(lot) == sorted(lot) and lot for lot in lots))
                self.assertEqual(list(lots), sorted(lots))


class TestCutRows(unittest.TestCase):
    def test_stretch_by_hand(self):
        rows = rows_of((2, 3))
        lower, upper = cut_rows(("stretch", (0, 1)), rows, [(0, 1), (1, 0), (1, 2)])
        self.assertEqual((lower, upper), (((0, 0), (0, 1), (0, 2)), ((1, 0), (1, 1), (1, 2))))
        lower, upper = cut_rows(("stretch", (1, 0)), rows, [(0, 1), (1, 0), (1, 2)])
        self.assertEqual((lower, upper), (((0, 0), (1, 0)), ((0, 1), (0, 2), (1, 1), (1, 2))))

    def test_split_takes_the_widest_column_and_the_first_told(self):
        rows = rows_of((4, 4))
        lower, upper = cut_rows(("split", (0, 1)), rows, [(0, 0), (1, 3)])
        self.assertEqual(lower, tuple(row for row in rows if row[1] < 3))
        self.assertEqual(upper, tuple(row for row in rows if row[1] >= 3))
        lower, _ = cut_rows(("split", (0, 1)), rows, [(0, 0), (2, 2)])
        self.assertEqual(lower, tuple(row for row in rows if row[0] < 2))
        lower, _ = cut_rows(("split", (1, 0)), rows, [(0, 0), (2, 2)])
        self.assertEqual(lower, tuple(row for row in rows if row[1] < 2))

    def test_split_goes_above_the_least_value(self):
        rows = rows_of((6, 2))
        lower, _ = cut_rows(("split", (0, 1)), rows, [(0, 0), (0, 1), (5, 1)])
        self.assertEqual(lower, tuple(row for row in rows if row[0] < 5))
        lower, _ = cut_rows(("split", (0, 1)), rows, [(1, 0), (1, 1), (3, 0), (5, 1)])
        self.assertEqual(lower, tuple(row for row in rows if row[0] < 3))

    def test_other_kinds_go_by_the_row(self):
        rows = [(0, 3), (1, 0), (1, 1), (3, 2)]
        for kind in (("grid", (4, 4)), ("lots", 1), ("given", ((Box((0, 0), (4, 4)),),))):
            self.assertEqual(cut_rows(kind, rows, [(3, 2), (0, 3)]), (((0, 3), (1, 0), (1, 1)), ((3, 2),)))
            self.assertEqual(cut_rows(kind, rows, rows), (((0, 3), (1, 0)), ((1, 1), (3, 2))))
            self.assertEqual(cut_rows(kind, rows, rows[:3]), (((0, 3),), ((1, 0), (1, 1), (3, 2))))

    def test_against_the_words(self):
        chance = seeded(45)
        for widths in ((9,), (4, 4), (2, 5), (3, 2, 3)):
            columns = list(range(len(widths)))
            for _ in range(150):
                chance.shuffle(columns)
                rows = chance.sample(rows_of(widths), chance.randint(2, len(rows_of(widths))))
                marked = chance.sample(rows, chance.randint(2, len(rows)))
                for kind in (("stretch", tuple(columns)), ("split", tuple(columns)), ("grid", (64,) * len(widths)),
                             ("lots", 1)):
                    lower, upper = unchanged(self, cut_rows, kind, rows, marked)
                    self.assertEqual((lower, upper), plain_cut(kind, rows, marked))
                    self.assertTrue(only_tuples((lower, upper)))
                    self.assertTrue(set(lower) & set(marked) and set(upper) & set(marked))
                    lists = [kind[0], list(kind[1]) if isinstance(kind[1], tuple) else kind[1]]
                    again = cut_rows(lists, tuple(list(row) for row in rows), tuple(list(row) for row in marked))
                    self.assertEqual(again, (lower, upper))


if __name__ == "__main__":
    unittest.main()
