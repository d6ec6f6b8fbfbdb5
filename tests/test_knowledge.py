"""Tests of fewfetches.knowledge: 8.1 to 8.7."""

import copy
import itertools
import unittest

from fewfetches.knowledge import Known, find_shape
from fewfetches.layers import Layer
from fewfetches.stores import Store, Table
from tests.helpers import Odd, only_tuples, page_of, raised, random_table, rows_of, seeded, unchanged
from tests.makers import name_of, some_known

SHAPE = (("r", (4,), (2, 1)), ("s", (2, 2), (1,)))
PUT_ONE = page_of([(0,), (1,)], [((1,), "put")])
BARE_PAIR = page_of([(2,), (3,)])


def random_store_of(chance):
    return Store([random_table(chance, "r", (4,)), random_table(chance, "s", (2, 2)), random_table(chance, "t", (3,))])


def plain_mark(entries, name, layer, row):
    """What the entries tell of the row's mark in the layer."""
    for entry in entries:
        if entry[:2] == (name, layer) and row in entry[3].rows:
            return entry[3].mark(row) or "none"
    return None


def plain_worth(entries, layers, name, row):
    """(worth, first unknown layer) by the words of [8.6]."""
    for layer in range(layers):
        mark = plain_mark(entries, name, layer, row)
        if mark is None:
            return None, layer
        if mark != "none":
            return mark == "put", None
    return False, None


class TestFindShape(unittest.TestCase):
    def test_found(self):
        self.assertEqual(find_shape(SHAPE, "r"), ("r", (4,), (2, 1)))
        self.assertEqual(find_shape(SHAPE, "s"), ("s", (2, 2), (1,)))

    def test_no_table(self):
        for thing in ("q", "", "R", None, 0, True, ["r"], ("r",), {}, Odd()):
            self.assertEqual(raised(find_shape, SHAPE, thing), ("NoTable", thing))
            self.assertEqual(raised(find_shape, (), thing), ("NoTable", thing))


class TestKnown(unittest.TestCase):
    def test_nothing_known(self):
        known = Known(SHAPE)
        self.assertEqual((known.shape, known.entries, known.names, known.many), (SHAPE, (), (), 0))
        for row in rows_of((4,)):
            self.assertEqual([known.mark("r", layer, row) for layer in (0, 1)], [None, None])
            self.assertEqual((known.row_worth("r", row), known.first_unknown("r", row), known.pages_for("r", row)),
                             (None, 0, ()))
            self.assertEqual((known.has("r", 0, 1, row), known.page_of("r", 0, 1, row)), (False, None))

    def test_by_hand(self):
        gone = page_of([(0,), (2,)], [((2,), "gone")])
        old = page_of(rows_of((4,)), [((0,), "put"), ((1,), "gone"), ((2,), "put")])
        known = Known(SHAPE, [("r", 1, 0, old)])
        self.assertIsNone(known.add(("r", 0, 1, gone)))
        self.assertIsNone(known.add(("r", 0, 0, PUT_ONE)))
        self.assertEqual(known.names, (("r", 0, 0, (0,)), ("r", 0, 1, (0,)), ("r", 1, 0, (0,))))
        self.assertEqual(known.entries, (("r", 0, 0, PUT_ONE), ("r", 0, 1, gone), ("r", 1, 0, old)))
        self.assertEqual(known.many, 3)
        self.assertEqual([known.mark("r", 0, row) for row in rows_of((4,))], ["none", "put", "gone", None])
        self.assertEqual([known.mark("r", 1, row) for row in rows_of((4,))], ["put", "gone", "put", "none"])
        self.assertEqual([known.row_worth("r", row) for row in rows_of((4,))], [True, True, False, None])
        self.assertEqual([known.first_unknown("r", row) for row in rows_of((4,))], [None, None, None, 0])
        self.assertEqual([known.pages_for("r", row) for row in rows_of((4,))],
                         [(("r", 0, 0, (0,)), ("r", 1, 0, (0,))), (("r", 0, 0, (0,)),), (("r", 0, 1, (0,)),), ()])
        self.assertEqual([known.has("r", 0, 0, row) for row in rows_of((4,))], [True, True, False, False])
        self.assertEqual([known.page_of("r", 0, 1, row) for row in rows_of((4,))],
                         [("r", 0, 1, (0,)), None, ("r", 0, 1, (0,)), None])
        self.assertEqual(known.page(("r", 1, 0, (0,))), old)

    def test_worth_needs_older_layers_only_without_mark(self):
        known = Known((("r", (4,), (1, 1, 1)),), [("r", 0, 0, PUT_ONE)])
        self.assertEqual((known.row_worth("r", (0,)), known.first_unknown("r", (0,))), (None, 1))
        self.assertEqual((known.row_worth("r", (1,)), known.first_unknown("r", (1,))), (True, None))
        known.add(("r", 2, 0, PUT_ONE))
        self.assertEqual((known.row_worth("r", (0,)), known.first_unknown("r", (0,))), (None, 1))
        known.add(("r", 1, 0, page_of([(0,)])))
        self.assertEqual((known.row_worth("r", (0,)), known.first_unknown("r", (0,))), (False, None))
        self.assertEqual(known.pages_for("r", (0,)), tuple(("r", layer, 0, (0,)) for layer in range(3)))
        self.assertEqual(known.pages_for("r", (1,)), (("r", 0, 0, (0,)),))

    def test_gone_in_the_oldest_layer(self):
        known = Known((("r", (4,), (1,)),), [("r", 0, 0, page_of([(0,), (1,)], [((1,), "gone")]))])
        self.assertEqual([known.row_worth("r", row) for row in [(0,), (1,), (2,)]], [False, False, None])

    def test_every_order_of_adding(self):
        entries = [("r", 0, 0, PUT_ONE), ("r", 0, 0, BARE_PAIR), ("r", 0, 1, page_of([(1,), (2,)], [((1,), "put")])),
                   ("s", 0, 0, page_of(rows_of((2, 2))))]
        first = Known(SHAPE, entries)
        for order in itertools.permutations(entries):
            known = unchanged(self, Known, SHAPE, list(order))
            self.assertEqual(known, first)
            self.assertEqual((known.entries, known.names), (first.entries, first.names))
            self.assertEqual([known.pages_for("r", row) for row in rows_of((4,))],
                             [first.pages_for("r", row) for row in rows_of((4,))])
        self.assertTrue(only_tuples((first.entries, first.names, first.shape)))
        self.assertEqual(list(first.names), [name_of(entry) for entry in first.entries])

    def test_equality(self):
        known = Known(SHAPE, [("r", 0, 0, PUT_ONE)])
        self.assertEqual(known, Known(SHAPE, (("r", 0, 0, page_of([(1,), (0,)], [((1,), "put")])),)))
        others = [Known(SHAPE), Known(SHAPE, [("r", 0, 1, PUT_ONE)]), Known(SHAPE, [("r", 1, 0, PUT_ONE)]),
                  Known(SHAPE, [("r", 0, 0, page_of([(0,), (1,)]))]), Known(SHAPE, [("r", 0, 0, page_of([(0,)]))]),
                  Known(SHAPE, [("r", 0, 0, PUT_ONE), ("r", 0, 0, BARE_PAIR)]),
                  Known(SHAPE[:1], [("r", 0, 0, PUT_ONE)]), SHAPE, known.entries, None]
        for other in others:
            self.assertFalse(known == other)

    def test_keeps_nothing_that_is_passed(self):
        shape = [["r", [4], [2, 1]]]
        entries = [("r", 0, 0, PUT_ONE)]
        known = Known(shape, entries)
        before = known.twin()
        entries.append(("r", 0, 0, BARE_PAIR))
        shape[0][2].append(1)
        self.assertEqual(known, before)
        self.assertEqual(known.shape, (("r", (4,), (2, 1)),))

    def test_random(self):
        chance = seeded(81)
        for _ in range(40):
            store = random_store_of(chance)
            known = some_known(chance, store)
            counts = {name: counts for name, _, counts in store.shape}
            for name, widths, _ in store.shape:
                for row in rows_of(widths):
                    worth, layer = plain_worth(known.entries, len(counts[name]), name, row)
                    self.assertIs(known.row_worth(name, row), worth)
                    self.assertEqual(known.first_unknown(name, row), layer)
                    self.check_pages_for(known, counts[name], name, row)
                    for at, many in enumerate(counts[name]):
                        self.assertEqual(known.mark(name, at, row), plain_mark(known.entries, name, at, row))
                        for index in range(many):
                            page_name = store.place_of(name, at, index, row)
                            held = page_name in known.names
                            self.assertIs(known.has(name, at, index, row), held)
                            self.assertEqual(known.page_of(name, at, index, row), page_name if held else None)
                            if held:
                                self.assertEqual(known.page(page_name), store.read(name, at, index, row))

    def check_pages_for(self, known, counts, name, row):
        expected = []
        if known.row_worth(name, row) is not None:
            for layer, many in enumerate(counts):
                holders = [known.page_of(name, layer, index, row) for index in range(many)]
                expected.append([page_name for page_name in holders if page_name is not None][0])
                if known.mark(name, layer, row) != "none":
                    break
        self.assertEqual(known.pages_for(name, row), tuple(expected))
        if expected:
            self.assertIs(known.only(expected).row_worth(name, row), known.row_worth(name, row))


class TestAdd(unittest.TestCase):
    def refused(self, entries, entry, word):
        known = Known(SHAPE, entries)
        before = copy.deepcopy(known)
        self.assertEqual(raised(known.add, entry), (word,), entry)
        self.assertEqual((known, known.entries), (before, before.entries))
        for row in rows_of((4,)):
            self.assertEqual([known.mark("r", 0, row), known.page_of("r", 0, 0, row), known.page_of("r", 0, 1, row)],
                             [before.mark("r", 0, row), before.page_of("r", 0, 0, row), before.page_of("r", 0, 1, row)])
        self.assertEqual(raised(known.with_page, entry), (word,))
        self.assertEqual(raised(Known, SHAPE, list(entries) + [entry]), (word,))

    def test_again(self):
        same = page_of([(1,), (0,)], [((1,), "put")])
        self.refused([("r", 0, 0, PUT_ONE)], ("r", 0, 0, same), "Again")
        self.refused([("r", 0, 0, BARE_PAIR), ("r", 0, 0, PUT_ONE), ("r", 0, 1, PUT_ONE)], ("r", 0, 0, PUT_ONE), "Again")
        # the same page at another address is not known there
        known = Known(SHAPE, [("r", 0, 0, PUT_ONE)])
        known.add(("r", 0, 1, PUT_ONE))
        known.add(("r", 1, 0, PUT_ONE))
        self.assertEqual(known.many, 3)

    def test_no_such_address(self):
        for name, layer, index in (("q", 0, 0), ("r", 2, 0), ("r", 0, 2), ("r", 1, 1), ("s", 1, 0), ("r", -1, 0), ("r", 0, -1),
                                   ("r", True, 0), ("r", 0, False), ("r", 0.0, 0), ("r", None, 0), (None, 0, 0),
                                   (["r"], 0, 0), ("r", [0], 0), ("R", 0, 0)):
            self.refused([], (name, layer, index, PUT_ONE), "Foreign")

    def test_known_page_at_a_false_number(self):
        self.refused([("r", 0, 0, PUT_ONE), ("r", 1, 0, PUT_ONE)], ("r", True, False, PUT_ONE), "Foreign")

    def test_no_entry(self):
        for thing in (None, 3, True, "r", (), ("r", 0, 0), ("r", 0, 0, PUT_ONE, 1), ["r", 0, 0, PUT_ONE], ("r", 0, 0, None),
                      ("r", 0, 0, (0,)), ("r", 0, 0, PUT_ONE.told), PUT_ONE, Odd(), {}):
            self.refused([], thing, "Foreign")

    def test_rows_of_no_table(self):
        for rows in ([(4,)], [(0,), (4,)], [(3,), (4,), (5,)], [(0, 0)], [(0, 0, 0)], [(63,)]):
            self.refused([], ("r", 0, 0, page_of(rows)), "Foreign")
        for rows in ([(0,)], [(0, 2)], [(2, 0)], [(1, 1), (1, 2)], [(0, 0, 0)]):
            self.refused([], ("s", 0, 0, page_of(rows)), "Foreign")
        self.assertIsNone(Known(SHAPE).add(("r", 0, 0, page_of(rows_of((4,))))))
        self.assertIsNone(Known(SHAPE).add(("s", 0, 0, page_of(rows_of((2, 2))))))

    def test_shared_rows(self):
        for page in (page_of([(1,)], [((1,), "put")]), page_of([(0,), (1,)]), page_of([(1,), (2,)], [((1,), "put")]),
                     page_of([(0,), (1,), (2,)], [((1,), "put")]), page_of([(0,), (1,)], [((1,), "gone")])):
            self.refused([("r", 0, 0, PUT_ONE)], ("r", 0, 0, page), "Foreign")

    def test_unlike_marks_of_another_index(self):
        for page in (page_of([(1,)]), page_of([(1,)], [((1,), "gone")]), page_of([(0,), (3,)], [((0,), "put")]),
                     page_of([(0,), (3,)], [((0,), "gone")]), page_of(rows_of((4,)), [((3,), "put")])):
            self.refused([("r", 0, 0, PUT_ONE)], ("r", 0, 1, page), "Foreign")
            self.assertIsNone(Known(SHAPE, [("r", 0, 0, PUT_ONE)]).add(("r", 1, 0, page)))
        for page in (page_of([(1,)], [((1,), "put")]), page_of([(0,), (3,)], [((3,), "put")]), page_of([(2,), (3,)])):
            self.assertIsNone(Known(SHAPE, [("r", 0, 0, PUT_ONE)]).add(("r", 0, 1, page)))

    def test_every_page_of_a_store_is_taken(self):
        chance = seeded(82)
        for _ in range(30):
            store = random_store_of(chance)
            known = some_known(chance, store, 1)
            self.assertEqual(known.names, store.page_names)
            self.assertEqual(known.entries, tuple(store.each_entry()))
            for name in store.names:
                for row in rows_of(store.table_of(name).widths):
                    self.assertIs(known.row_worth(name, row), store.value(name, row))

    def test_foreign_exactly_if_no_store_holds_it(self):
        """All sets of two pages of a table of two rows, against all stores of the shape."""
        shape = (("t", (2,), (2,)),)
        rows = [(0,), (1,)]
        worths = (None, "put", "gone")
        stores = []
        for marks in itertools.product(worths, repeat=2):
            told = [(row, mark) for row, mark in zip(rows, marks) if mark is not None]
            ways = [(page_of(rows, told),), tuple(page_of([row], [entry for entry in told if entry[0] == row]) for row in rows)]
            stores += [Store([Table("t", [Layer((2,), indexes)])]) for indexes in itertools.product(ways, repeat=2)]
        pages = [page for store in stores for page in store.tables[0].layers[0].indexes[0]]
        entries = []
        for page in pages:
            entries += [("t", 0, index, page) for index in (0, 1) if ("t", 0, index, page) not in entries]
        for one, other in itertools.product(entries, repeat=2):
            told = raised(Known(shape, [one]).add, other)
            if one == other:
                self.assertEqual(told, ("Again",))
            else:
                possible = any(store.holds(one) and store.holds(other) for store in stores)
                self.assertEqual(told, None if possible else ("Foreign",))


class TestPages(unittest.TestCase):
    def test_no_page(self):
        known = Known(SHAPE, [("r", 0, 0, PUT_ONE), ("s", 0, 0, page_of(rows_of((2, 2))))])
        names = [("r", 0, 0, (1,)), ("r", 0, 1, (0,)), ("r", 1, 0, (0,)), ("q", 0, 0, (0,)), ("r", False, 0, (0,)),
                 ("r", 0, False, (0,)), ("r", 0, 0, (False,)), ("r", 0.0, 0, (0,)), ("r", 0, 0, (0.0,)), ("r", 0, 0, [0]),
                 ["r", 0, 0, (0,)], ("r", 0, 0), ("r", 0, 0, (0,), 0), ("s", 0, 0, (0, False)), ("r", 0, 0, 0), None, 3, "r",
                 (), ("r", [0], 0, (0,)), (["r"], 0, 0, (0,)), ("r", 0, 0, ([0],)), {}, Odd(), {("r", 0, 0, (0,))}]
        for name in names:
            self.assertEqual(raised(known.page, name), ("NoPage", name))
            self.assertEqual(raised(known.only, [("r", 0, 0, (0,)), name, ("q", 0, 0, (0,))]), ("NoPage", name))
            self.assertEqual(known.without([name]), known)
        self.assertEqual(known.page(("s", 0, 0, (0, 0))), page_of(rows_of((2, 2))))

    def test_twin(self):
        known = Known(SHAPE, [("r", 0, 0, PUT_ONE)])
        twin = known.twin()
        self.assertEqual(twin, known)
        self.assertIsNot(twin, known)
        twin.add(("r", 0, 0, BARE_PAIR))
        self.assertEqual((known.many, twin.many), (1, 2))
        self.assertEqual((known.mark("r", 0, (2,)), twin.mark("r", 0, (2,))), (None, "none"))
        self.assertEqual((known.has("r", 0, 0, (2,)), twin.has("r", 0, 0, (2,))), (False, True))
        known.add(("r", 0, 1, page_of([(2,)])))
        self.assertEqual((known.has("r", 0, 1, (2,)), twin.has("r", 0, 1, (2,))), (True, False))
        known.add(("s", 0, 0, page_of([(0, 0)], [((0, 0), "put")])))
        self.assertEqual((known.mark("s", 0, (0, 0)), twin.mark("s", 0, (0, 0))), ("put", None))
        self.assertIsNone(twin.add(("s", 0, 0, page_of([(0, 0)], [((0, 0), "gone")]))))

    def test_with_page(self):
        known = Known(SHAPE, [("r", 0, 0, PUT_ONE)])
        more = unchanged(self, known.with_page, ("r", 0, 0, BARE_PAIR))
        self.assertEqual(more, Known(SHAPE, [("r", 0, 0, BARE_PAIR), ("r", 0, 0, PUT_ONE)]))
        self.assertEqual(known, Known(SHAPE, [("r", 0, 0, PUT_ONE)]))
        self.assertEqual(known.mark("r", 0, (2,)), None)

    def test_only_and_without(self):
        chance = seeded(83)
        for _ in range(40):
            store = random_store_of(chance)
            known = some_known(chance, store, 0.7)
            before = known.entries
            names = [name for name in known.names if chance.random() < 0.5]
            mixed = names + names[:2]
            chance.shuffle(mixed)
            inside = [entry for entry in known.entries if name_of(entry) in names]
            outside = [entry for entry in known.entries if name_of(entry) not in names]
            only = unchanged(self, known.only, mixed)
            without = unchanged(self, known.without, mixed + [name for name in store.page_names if name not in known.names])
            self.assertEqual((only, only.entries), (Known(store.shape, inside), tuple(inside)))
            self.assertEqual((without, without.entries), (Known(store.shape, outside), tuple(outside)))
            self.assertEqual(known.only(tuple(mixed)), only)
            for name, layer, index, page in inside:
                for row in page.rows:
                    self.assertFalse(without.has(name, layer, index, row))
                    self.assertEqual(without.row_worth(name, row), Known(store.shape, outside).row_worth(name, row))
            for entry in outside:
                self.assertIsNone(only.add(entry))
            self.assertEqual((only, known.entries), (known, before))

    def test_only_and_without_nothing(self):
        known = Known(SHAPE, [("r", 0, 0, PUT_ONE)])
        self.assertEqual((known.only(()), known.without(known.names)), (Known(SHAPE), Known(SHAPE)))
        self.assertEqual((known.only(known.names), known.without(())), (known, known))
        self.assertIsNot(known.without(()), known)


class TestPossibleStores(unittest.TestCase):
    """[8.1]: what is known is so in every possible store, and unknown rows can have any worths at once."""

    def test_unknown_rows_are_free(self):
        chance = seeded(84)
        for _ in range(40):
            store = random_store_of(chance)
            known = some_known(chance, store, 0.4)
            changes = []
            wished = {}
            for name, widths, _ in store.shape:
                for row in rows_of(widths):
                    layer = known.first_unknown(name, row)
                    if layer is None:
                        wished[(name, row)] = known.row_worth(name, row)
                    else:
                        wished[(name, row)] = chance.random() < 0.5
                        changes.append((name, layer, row, "put" if wished[(name, row)] else "gone"))
            other = store.with_marks(changes)
            self.assertTrue(all(other.holds(entry) for entry in known.entries))
            for (name, row), worth in wished.items():
                self.assertIs(other.value(name, row), worth)

    def test_more_pages_undo_nothing(self):
        chance = seeded(85)
        for _ in range(30):
            store = random_store_of(chance)
            known = some_known(chance, store, 0.3)
            for entry in store.each_entry():
                if name_of(entry) not in known.names:
                    more = known.with_page(entry)
                    for name, widths, _ in store.shape:
                        for row in rows_of(widths):
                            if known.row_worth(name, row) is not None:
                                self.assertIs(more.row_worth(name, row), known.row_worth(name, row))
                            elif more.row_worth(name, row) is not None:
                                layer = known.first_unknown(name, row)
                                self.assertTrue(entry[:2] == (name, layer) and entry[3].holds(row))


if __name__ == "__main__":
    unittest.main()
