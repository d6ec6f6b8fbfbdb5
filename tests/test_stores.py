"""Tables, stores and addresses: [0.6], [5.1], [5.4] to [5.8]."""

import unittest

from fewfetches.layers import Layer
from fewfetches.stores import Store, Table, is_entry
from tests.helpers import (Odd, no_integers, no_names, no_sequences, only_tuples, page_of, raised, random_table,
                           rows_of, seeded, unchanged)


def layer_of(widths, marks=(), many=1):
    """A layer of so many indexes, each with one page."""
    return Layer(widths, [[page_of(rows_of(widths), marks)]] * many)


def three_layers():
    """A table of three layers over the widths (6,): newest first."""
    newest = [((0,), "put"), ((1,), "gone"), ((2,), "put")]
    middle = [((1,), "put"), ((2,), "gone"), ((3,), "gone"), ((4,), "put")]
    oldest = [((1,), "put"), ((3,), "put"), ((5,), "gone")]
    return Table("abc", [layer_of((6,), newest), layer_of((6,), middle, 2), layer_of((6,), oldest, 3)])


class TestTable(unittest.TestCase):
    def test_attributes(self):
        layers = [layer_of((2, 2)), layer_of((2, 2), [((0, 1), "put")], 3)]
        table = unchanged(self, Table, "t", layers)
        self.assertEqual((table.name, table.widths, table.layers), ("t", (2, 2), tuple(layers)))
        self.assertEqual(table.rows, ((0, 1),))
        self.assertEqual(table.told, ("t", (layers[0].told, layers[1].told)))
        self.assertEqual(len(table), 2)
        self.assertTrue(only_tuples(table.told) and only_tuples(table.layers) and only_tuples(table.rows))
        layers.pop()
        self.assertEqual(len(table), 2)

    def test_one_and_three_layers(self):
        layer = layer_of((1,))
        for many in (1, 2, 3):
            self.assertEqual(len(Table("abcdefghijkl", (layer,) * many)), many)

    def test_values_by_three_layers(self):
        table = three_layers()
        marks = {(0,): (0, "put"), (1,): (0, "gone"), (2,): (0, "put"), (3,): (1, "gone"), (4,): (1, "put"),
                 (5,): (2, "gone")}
        for row in rows_of((6,)):
            for given in (row, list(row)):
                self.assertEqual(table.first_mark(given), marks.get(row))
                self.assertIs(table.value(given), marks[row][1] == "put")
        self.assertIsInstance(table.first_mark((0,)), tuple)
        self.assertEqual(table.rows, ((0,), (2,), (4,)))
        bare = Table("a", [layer_of((2,))])
        self.assertIsNone(bare.first_mark((0,)))
        self.assertIs(bare.value((0,)), False)
        self.assertEqual(bare.rows, ())

    def test_layer_at(self):
        table = three_layers()
        for number in range(3):
            self.assertIs(table.layer_at(number), table.layers[number])
        for thing in no_integers() + [-1, 3, 4]:
            error = raised(table.layer_at, thing)
            self.assertEqual(error[0], "NoLayer")
            self.assertIs(error[1], thing)

    def test_bad_rows(self):
        table = three_layers()
        for row in no_sequences() + [(), (6,), (-1,), (0, 0), (True,), [False], (0.0,)]:
            for method in (table.first_mark, table.value):
                error = raised(method, row)
                self.assertEqual(error[0], "BadRow")
                self.assertIs(error[1], row)

    def test_faults(self):
        layer, other = layer_of((2,)), layer_of((3,))
        for name in no_names():
            self.assertEqual(raised(Table, name, None), ("BadTable", "name", None))
        for layers in no_sequences() + [(), [], [layer] * 4, layer, [None], [layer, None], [layer.told], [[layer]],
                                        [other, layer, Odd()]]:
            self.assertEqual(raised(Table, "a", layers), ("BadTable", "layers", None))
        self.assertEqual(raised(Table, "a", [layer, other, other]), ("BadTable", "widths", 1))
        self.assertEqual(raised(Table, "a", [layer, layer, other]), ("BadTable", "widths", 2))
        self.assertEqual(raised(Table, "a", [layer_of((2, 3)), layer_of((3, 2))]), ("BadTable", "widths", 1))

    def test_equality_and_told(self):
        chance = seeded(54)
        table = three_layers()
        self.assertEqual(table, three_layers())
        layers = table.layers
        for unlike in (Table("abd", layers), Table("abc", layers[:2]), Table("abc", layers[::-1]),
                       Table("abc", layers[:2] + (layer_of((6,)),))):
            self.assertIs(table == unlike, False)
            self.assertIs(table != unlike, True)
        for thing in (None, table.told, layers, "abc"):
            self.assertIs(table == thing, False)
        for _ in range(20):
            table = random_table(chance, "x", chance.choice([(5,), (2, 3), (2, 2, 2)]))
            again = Table.of_told(table.told)
            self.assertIsInstance(again, Table)
            self.assertEqual(again, table)
            self.assertEqual((again.told, again.rows, again.widths), (table.told, table.rows, table.widths))

    def test_every_row_by_every_index(self):
        chance = seeded(55)
        for _ in range(40):
            widths = chance.choice([(6,), (3, 3), (2, 2, 2)])
            table = random_table(chance, "x", widths)
            inside = []
            for row in rows_of(widths):
                found = None
                for number, layer in enumerate(table.layers):
                    for index in range(len(layer)):
                        self.assertEqual(layer.read(index, row).mark(row), layer.mark(row))
                    if found is None and layer.mark(row) is not None:
                        found = (number, layer.mark(row))
                self.assertEqual(table.first_mark(row), found)
                self.assertIs(table.value(row), found is not None and found[1] == "put")
                inside += [row] if table.value(row) else []
            self.assertEqual(table.rows, tuple(inside))


def example():
    """A store of two tables, given in descending order."""
    low = [page_of([(0,), (2,)], [((2,), "put")]), page_of([(1,)])]
    high = [page_of([(0,)]), page_of([(1,), (2,)], [((2,), "put")])]
    one = Table("s", [Layer((3,), [low, high]), layer_of((3,), [((0,), "gone"), ((1,), "put")])])
    other = Table("r", [layer_of((2, 2), [((1, 1), "put")], 3)])
    return Store([one, other])


class TestStore(unittest.TestCase):
    def test_attributes(self):
        store = example()
        self.assertEqual([table.name for table in store.tables], ["r", "s"])
        self.assertEqual(store.names, ("r", "s"))
        self.assertEqual(store.shape, (("r", (2, 2), (3,)), ("s", (3,), (2, 1))))
        self.assertEqual(store.told, (store.tables[0].told, store.tables[1].told))
        self.assertTrue(only_tuples((store.tables, store.names, store.shape, store.told, store.page_names)))
        self.assertEqual(store.page_names, (("r", 0, 0, (0, 0)), ("r", 0, 1, (0, 0)), ("r", 0, 2, (0, 0)),
                                            ("s", 0, 0, (0,)), ("s", 0, 0, (1,)), ("s", 0, 1, (0,)),
                                            ("s", 0, 1, (1,)), ("s", 1, 0, (0,))))

    def test_tables_are_not_kept_as_a_list(self):
        tables = list(example().tables)
        store = unchanged(self, Store, tables)
        tables.clear()
        self.assertEqual(store, example())

    def test_one_and_eight_tables(self):
        layer = layer_of((1,))
        self.assertEqual(Store((Table("a", [layer]),)).names, ("a",))
        tables = [Table(name, [layer]) for name in "hgfedcba"]
        self.assertEqual(Store(tables).names, tuple("abcdefgh"))
        self.assertEqual(raised(Store, tables + [Table("i", [layer])]), ("BadStore", "tables", None))

    def test_faults(self):
        a, b = Table("a", [layer_of((1,))]), Table("b", [layer_of((2,))])
        other = Table("a", [layer_of((3,))])
        for tables in no_sequences() + [(), [], a, [None], [a, None], [a, a, a.told], [[a]], [a, layer_of((1,))]]:
            self.assertEqual(raised(Store, tables), ("BadStore", "tables", None))
        self.assertEqual(raised(Store, [a, a]), ("BadStore", "name", 1))
        self.assertEqual(raised(Store, [b, a, other, b]), ("BadStore", "name", 2))
        self.assertEqual(raised(Store, (a, b, b, a)), ("BadStore", "name", 2))

    def test_equality_and_told(self):
        chance = seeded(56)
        store = example()
        self.assertEqual(store, Store(store.tables))
        self.assertEqual(store, Store(store.tables[::-1]))
        for unlike in (Store(store.tables[:1]), Store(store.tables + (Table("t", [layer_of((1,))]),)),
                       store.with_marks([("s", 0, (0,), "put")])):
            self.assertIs(store == unlike, False)
            self.assertIs(store != unlike, True)
        for thing in (None, store.told, store.tables, "store"):
            self.assertIs(store == thing, False)
        for _ in range(15):
            store = Store([random_table(chance, name, (2, 2)) for name in ("b", "a", "ab")])
            again = Store.of_told(store.told)
            self.assertIsInstance(again, Store)
            self.assertEqual(again, store)
            self.assertEqual((again.told, again.shape, again.page_names), (store.told, store.shape, store.page_names))

    def test_reading(self):
        store = example()
        for table in store.tables:
            self.assertIs(store.table_of(table.name), table)
            self.assertEqual(store.rows_of(table.name), table.rows)
            for row in rows_of(table.widths):
                self.assertEqual(store.value(table.name, row), table.value(row))
                self.assertEqual(store.first_mark(table.name, list(row)), table.first_mark(row))
                for number, layer in enumerate(table.layers):
                    for index in range(len(layer)):
                        page = store.read(table.name, number, index, row)
                        self.assertEqual(page, layer.read(index, row))
                        self.assertEqual(store.read(table.name, number, index, list(row)), page)
                        self.assertEqual(store.place_of(table.name, number, index, row),
                                         (table.name, number, index, page.first))
                        self.assertTrue(only_tuples(store.place_of(table.name, number, index, list(row))))
        self.assertEqual(store.rows_of("s"), ((1,), (2,)))

    def test_refusals_and_their_order(self):
        store = example()
        for name in no_names() + ["t", "rs"]:
            calls = [(store.table_of, name), (store.rows_of, name), (store.first_mark, name, None),
                     (store.value, name, None), (store.read, name, 9, 9, 9), (store.place_of, name, 9, 9, 9)]
            for call in calls:
                error = raised(*call)
                self.assertEqual(error[0], "NoTable")
                self.assertIs(error[1], name)
        for method in (store.read, store.place_of):
            for thing in no_integers() + [-1, 2]:
                error = raised(method, "s", thing, 9, 9)
                self.assertEqual(error[0], "NoLayer")
                self.assertIs(error[1], thing)
            for thing in no_integers() + [-1, 2]:
                error = raised(method, "s", 0, thing, 9)
                self.assertEqual(error[0], "NoIndex")
                self.assertIs(error[1], thing)
            self.assertEqual(raised(method, "s", 1, 1, (0,)), ("NoIndex", 1))
            self.assertEqual(raised(method, "r", 1, 0, (0, 0)), ("NoLayer", 1))
        for row in no_sequences() + [(), (3,), (True,), (0, 0)]:
            for call in ((store.read, "s", 0, 0), (store.place_of, "s", 1, 0), (store.value, "s"),
                         (store.first_mark, "s")):
                error = raised(*call, row)
                self.assertEqual(error[0], "BadRow")
                self.assertIs(error[1], row)

    def test_entries(self):
        store = example()
        entries = list(store.each_entry())
        self.assertEqual([entry[:3] + (entry[3].first,) for entry in entries], list(store.page_names))
        self.assertEqual(list(store.page_names), sorted(store.page_names))
        for entry in entries:
            self.assertIs(is_entry(entry), True)
            self.assertEqual(entry[3], store.read(*entry[:3], entry[3].first))
            self.assertIs(store.holds(entry), True)

    def test_holds_just_this_page(self):
        store = example()
        page = store.read("s", 0, 0, (0,))
        self.assertIs(store.holds(("s", 0, 0, page_of([(0,), (2,)], [((2,), "put")]))), True)
        others = [page_of([(0,), (2,)]), page_of([(0,), (2,)], [((2,), "gone")]), page_of([(0,)]),
                  page_of([(0,), (1,), (2,)], [((2,), "put")]), page_of([(0,), (3,)]), page_of([(5,)]),
                  page_of([(0, 0)]), page_of([(2,)], [((2,), "put")])]
        for other in others:
            self.assertIs(store.holds(("s", 0, 0, other)), False)
        for name, layer, index in (("r", 0, 0), ("t", 0, 0), ("s", 1, 0), ("s", 2, 0), ("s", 0, 1), ("s", 0, 2),
                                   ("s", False, 0), ("s", 0, False), ("s", -2, 0), ("s", 0, -2), ("s", None, 0),
                                   (["s"], 0, 0), ("s", 0, {})):
            self.assertIs(store.holds((name, layer, index, page)), False)
        for thing in no_sequences() + [(), ["s", 0, 0, page], ("s", 0, 0, page, 1), ("s", 0, 0), page,
                                       ("s", 0, 0, page.told), ("s", 0, 0, (0,))]:
            self.assertIs(store.holds(thing), False)

    def test_is_entry(self):
        page = page_of([(0,)])
        for entry in (("a", 0, 0, page), ("abcdefghijkl", 99, 5, page)):
            self.assertIs(is_entry(entry), True)
            self.assertIs(is_entry(list(entry)), False)
            self.assertIs(is_entry(entry[:3]), False)
            self.assertIs(is_entry(entry + (page,)), False)
        for name in no_names():
            self.assertIs(is_entry((name, 0, 0, page)), False)
        for thing in no_integers() + [-1]:
            self.assertIs(is_entry(("a", thing, 0, page)), False)
            self.assertIs(is_entry(("a", 0, thing, page)), False)
        for thing in (None, page.told, page.place, (0,), "page", [page], Odd()):
            self.assertIs(is_entry(("a", 0, 0, thing)), False)
        for thing in no_sequences():
            self.assertIs(is_entry(thing), False)


class TestOtherStores(unittest.TestCase):
    def test_with_table(self):
        store = example()
        table = Table("r", [layer_of((5,))])
        newer = store.with_table(table)
        self.assertEqual(newer, Store([table, store.table_of("s")]))
        self.assertEqual(newer.shape, (("r", (5,), (1,)), ("s", (3,), (2, 1))))
        self.assertEqual(store, example())
        self.assertEqual(raised(store.with_table, Table("t", [layer_of((5,))])), ("NoTable", "t"))

    def test_with_marks(self):
        store = example()
        changes = [["s", 0, [0], "put"], ("s", 1, (0,), None), ("r", 0, (1, 1), "put"), ("s", 0, (0,), "gone"),
                   ("s", 0, (2,), None), ("s", 1, (2,), "put")]
        newer = unchanged(self, store.with_marks, changes)
        self.assertEqual(newer.table_of("s").layers[0].marks, (((0,), "gone"),))
        self.assertEqual(newer.table_of("s").layers[1].marks, (((1,), "put"), ((2,), "put")))
        self.assertEqual(newer.table_of("r"), store.table_of("r"))
        self.assertEqual(newer.page_names, store.page_names)
        self.assertEqual([entry[3].place for entry in newer.each_entry()],
                         [entry[3].place for entry in store.each_entry()])
        self.assertEqual(store, example())

    def test_no_change(self):
        store = example()
        for changes in ((), [], [("r", 0, (0, 0), None)], [("s", 0, (2,), None), ("s", 0, (2,), "put")]):
            self.assertEqual(store.with_marks(changes), store)

    def test_every_choice_of_marks(self):
        chance = seeded(58)
        for _ in range(30):
            store = Store([random_table(chance, name, (2, 3)) for name in ("a", "b")])
            wanted = {(name, layer, row): chance.choice(["put", "gone", None])
                      for name, widths, counts in store.shape for layer in range(len(counts))
                      for row in rows_of(widths)}
            changes = [(name, layer, row, mark) for (name, layer, row), mark in wanted.items()]
            chance.shuffle(changes)
            newer = store.with_marks(changes)
            self.assertEqual(newer.page_names, store.page_names)
            for name, layer, index, page in newer.each_entry():
                self.assertEqual(page.rows, store.read(name, layer, index, page.first).rows)
                for row in page.rows:
                    self.assertEqual(page.mark(row), wanted[(name, layer, row)])

    def test_bad_changes(self):
        store = example()
        good = ("s", 0, (0,), "put")
        for thing in no_sequences():
            self.assertEqual(raised(store.with_marks, thing), ("BadChange", None))
        wrong = no_sequences() + [(), good[:3], good + (1,), ("t", 0, (0,), "put"), (["s"], 0, (0,), "put"),
                                  ("s", 2, (0,), "put"), ("s", -1, (0,), "put"), ("s", True, (0,), "put"),
                                  ("s", False, (0,), "put"), ("s", None, (0,), "put"), ("r", 1, (0, 0), "put"),
                                  ("s", 0, (3,), "put"), ("s", 0, (True,), "put"), ("s", 0, (0, 0), "put"),
                                  ("s", 0, 0, "put"), ("s", 0, (0,), "x"), ("s", 0, (0,), True),
                                  ("s", 0, (0,), ["put"]), ("r", 0, (0,), None), {}, "abcd"]
        for thing in wrong:
            self.assertEqual(raised(store.with_marks, [thing, thing]), ("BadChange", 0))
            self.assertEqual(raised(store.with_marks, (good, ["s", 1, [1], None], thing)), ("BadChange", 2))
        self.assertEqual(store, example())


if __name__ == "__main__":
    unittest.main()
