"""Versions and edits: [6.1], [6.4] to [6.9]."""

import copy
import unittest

from fewfetches.boxes import Box
from fewfetches.compaction import compacted, empty_layer, relaid
from fewfetches.indexes import change_index
from fewfetches.layers import Layer
from fewfetches.stores import Store, Table
from fewfetches.versions import first_version, standing, version_at
from tests.helpers import (all_kinds, no_integers, no_names, no_sequences, only_tuples, page_of, raised,
                           random_table, rows_of, seeded)

LINE = ("stretch", (0,))
WIDTHS = {"a": (6,), "b": (2, 3)}


def one_table(marks=(), widths=(4,), cut=None):
    """A table "t" of one layer with one index."""
    rows = rows_of(widths)
    lots = cut or [rows]
    return Table("t", [Layer(widths, [[page_of(lot, [mark for mark in marks if mark[0] in lot]) for lot in lots]])])


def example():
    """Version 0 of a table of one layer in two pages, and of an untouched table."""
    table = one_table([((0,), "put"), ((2,), "put")], (4,), [[(0,), (1,)], [(2,), (3,)]])
    other = Table("u", [Layer((2,), [[page_of([(0,), (1,)])]])])
    return first_version(Store([table, other]), [[[LINE]], [[LINE]]], 2)


def random_version(chance):
    """Version 0 of two tables, with kinds that did not build its indexes."""
    store = Store([random_table(chance, name, widths) for name, widths in WIDTHS.items()])
    kinds = [[[chance.choice(all_kinds(table.widths)) for _ in layer.indexes] for layer in table.layers]
             for table in store.tables]
    return first_version(store, kinds, chance.choice([1, 2, 3, 4096]))


def random_edit(chance, version):
    """Some edit that this version takes: (word, what it is passed)."""
    name = chance.choice(sorted(WIDTHS))
    table = version.store.table_of(name)
    layer = chance.randrange(len(table))
    edits = [("put_row", name, chance.choice(rows_of(table.widths)))] * 2
    edits += [("remove_row", name, chance.choice(rows_of(table.widths)))] * 2
    edits += [("relay", name, layer, chance.randrange(len(table.layers[layer])),
               chance.choice(all_kinds(table.widths)))]
    if len(table) < 3:
        edits += [("flush", name, [chance.choice(all_kinds(table.widths)) for _ in range(chance.randint(1, 3))])]
    if len(table) > 1:
        edits += [("compact", name, chance.randrange(len(table) - 1))]
    return chance.choice(edits)


def done(version, edit):
    return getattr(version, edit[0])(*edit[1:])


def plain_lead(edit, before, name, layer):
    """Where [6.8] leads a layer by this edit."""
    if edit[1] != name or edit[0] in ("put_row", "remove_row", "relay"):
        return layer
    if edit[0] == "flush":
        return layer + 1
    if layer == edit[2]:
        return None
    return layer if layer < edit[2] else layer - 1


def values(store):
    return {(table.name, row): table.value(row) for table in store.tables for row in rows_of(table.widths)}


class TestFirstVersion(unittest.TestCase):
    def test_attributes(self):
        store = Store([one_table(), Table("u", [Layer((2, 2), [[page_of(rows_of((2, 2)))]] * 2)] * 3)])
        kinds = [[[["stretch", [0]]]], [[["split", [1, 0]], ("lots", 2)]] * 3]
        before = copy.deepcopy(kinds)
        version = first_version(store, kinds, 7)
        self.assertEqual(kinds, before)
        self.assertEqual((version.number, version.store, version.room, version.before, version.gone,
                          version.gone_names), (0, store, 7, None, (), ()))
        self.assertEqual(version.kinds, (((LINE,),), ((("split", (1, 0)), ("lots", 2)),) * 3))
        self.assertTrue(only_tuples(version.kinds))
        kinds[0].clear()
        self.assertEqual(version.kinds[0], ((LINE,),))

    def test_kinds_are_as_check_kind_returns_them(self):
        kind = ["given", [[Box((2,), (4,))], [Box((1,), (2,)), Box((0,), (1,))]]]
        version = first_version(Store([one_table()]), [[[kind]]], 1)
        self.assertEqual(version.kinds, (((("given", ((Box((0,), (2,)),), (Box((2,), (4,)),))),),),))

    def test_pages_stay_as_they_are(self):
        table = one_table([((row,), "put") for row in range(4)])
        version = first_version(Store([table]), [[[("lots", 4)]]], 1)
        self.assertEqual(version.store.tables[0], table)

    def test_faults(self):
        store = Store([one_table(), Table("u", [Layer((2, 2), [[page_of(rows_of((2, 2)))]] * 2)] * 2)])
        good = [[[LINE]], [[("lots", 1), ("lots", 2)], [("lots", 3), ("split", (0, 1))]]]
        self.assertEqual(first_version(store, good, 4096).room, 4096)
        wrong = [[], good[:1], good + good[1:], [good[1], good[0]], [good[0], good[1][:1]], [good[0], good[1] * 2],
                 [[[LINE, LINE]], good[1]], [[[]], good[1]], [[LINE], good[1]], [good[0], [good[1][0], [("lots", 1)]]],
                 [[[("split", (0, 1))]], good[1]], [[[None]], good[1]], [good[0], [good[1][0], None]], [None, good[1]]]
        for kinds in no_sequences() + wrong:
            self.assertEqual(raised(first_version, store, kinds, None), ("BadKinds",))
        for room in no_integers() + [0, -1, 4097]:
            self.assertEqual(raised(first_version, store, good, room), ("BadIndex", "room"))


class TestEdits(unittest.TestCase):
    def test_put_and_remove_by_hand(self):
        version = example()
        newer = version.put_row("t", [1])
        self.assertEqual(newer.number, 1)
        self.assertIs(newer.before, version)
        self.assertEqual(newer.store.rows_of("t"), ((0,), (1,), (2,)))
        page = version.store.read("t", 0, 0, (0,))
        self.assertEqual(newer.gone, (("t", 0, 0, page),))
        self.assertEqual(newer.gone_names, (("t", 0, 0, (0,)),))
        self.assertTrue(only_tuples(newer.gone) and only_tuples(newer.gone_names))
        other = newer.remove_row("t", (2,))
        self.assertEqual(other.store.rows_of("t"), ((0,), (1,)))
        self.assertEqual(other.store.first_mark("t", (2,)), (0, "gone"))
        self.assertEqual(other.gone_names, (("t", 0, 0, (2,)),))
        self.assertEqual(other.number, 2)
        self.assertEqual(version.store.rows_of("t"), ((0,), (2,)))
        self.assertEqual((newer.kinds, newer.room), (version.kinds, version.room))

    def test_a_put_that_changes_nothing_is_a_version(self):
        version = example()
        newer = version.put_row("t", (0,))
        self.assertEqual((newer.number, newer.store, newer.gone, newer.gone_names), (1, version.store, (), ()))
        self.assertNotEqual(newer, version)

    def test_put_marks_the_newest_layer_alone(self):
        version = example().flush("t", [LINE, ("lots", 2)])
        newer = version.put_row("t", (3,)).remove_row("t", (0,))
        self.assertEqual(newer.store.table_of("t").layers[0].marks, (((0,), "gone"), ((3,), "put")))
        self.assertEqual(newer.store.table_of("t").layers[1], version.store.table_of("t").layers[1])
        self.assertEqual(newer.store.rows_of("t"), ((2,), (3,)))
        self.assertEqual(newer.kinds, (((LINE, ("lots", 2)), (LINE,)), ((LINE,),)))

    def test_pages_are_cut_and_joined_as_change_index_does(self):
        version = example().put_row("t", (1,)).put_row("t", (3,))
        table = version.store.table_of("t")
        newer = version.put_row("t", (3,)).remove_row("t", (3,))
        index, _ = change_index(LINE, (4,), 2, table.layers[0].indexes[0], [((3,), "gone")])
        self.assertEqual(newer.store.table_of("t").layers[0].indexes, (index,))

    def test_flush_by_hand(self):
        version = example()
        newer = version.flush("t", [["lots", 2], ["stretch", [0]]])
        self.assertEqual(newer.store.table_of("t").layers[0], empty_layer((4,), [("lots", 2), LINE], 2))
        self.assertEqual(newer.store.table_of("t").layers[1], version.store.table_of("t").layers[0])
        self.assertEqual(newer.kinds, (((("lots", 2), LINE), (LINE,)), ((LINE,),)))
        self.assertTrue(only_tuples(newer.kinds))
        self.assertEqual(newer.gone, ())
        self.assertEqual([newer.lead("t", 0), newer.lead("u", 0)], [1, 0])
        self.assertEqual(newer.lead_name(("t", 0, 0, (2,))), ("t", 1, 0, (2,)))

    def test_compact_by_hand(self):
        version = example().flush("t", [("lots", 2)]).put_row("t", (3,)).flush("t", [LINE])
        newer = version.compact("t", 0)
        table = version.store.table_of("t")
        self.assertEqual(newer.store.table_of("t").layers,
                         (compacted(table.layers[0], table.layers[1], [("lots", 2)], 2, False), table.layers[2]))
        self.assertEqual(newer.kinds[0], ((("lots", 2),), (LINE,)))
        self.assertEqual([newer.lead("t", layer) for layer in range(3)], [None, 0, 1])
        self.assertEqual(newer.gone_names, (("t", 0, 0, (0,)),))
        last = version.compact("t", 1)
        self.assertEqual(last.store.table_of("t").layers,
                         (table.layers[0], compacted(table.layers[1], table.layers[2], [LINE], 2, True)))
        self.assertEqual(last.kinds[0], ((LINE,), (LINE,)))
        self.assertEqual([last.lead("t", layer) for layer in range(3)], [0, None, 1])
        self.assertIsNone(last.lead_name(("t", 1, 0, (0,))))
        self.assertEqual(last.lead_name(("t", 2, 0, (0,))), ("t", 1, 0, (0,)))
        self.assertIsNone(last.lead_name(("t", 2, 0, (2,))))

    def test_the_oldest_layer_keeps_no_gone_marks(self):
        version = example().flush("t", [LINE]).remove_row("t", (0,)).flush("t", [LINE]).remove_row("t", (1,))
        last = version.compact("t", 1)
        self.assertEqual(last.store.table_of("t").layers[1].marks, (((2,), "put"),))
        self.assertEqual(last.store.table_of("t").layers[0].marks, (((1,), "gone"),))
        inner = version.compact("t", 0)
        self.assertEqual(inner.store.table_of("t").layers[0].marks, (((0,), "gone"), ((1,), "gone")))

    def test_relay_by_hand(self):
        version = example().flush("t", [LINE, LINE])
        newer = version.relay("t", 0, 1, ["lots", 2])
        table = version.store.table_of("t")
        self.assertEqual(newer.store.table_of("t").layers, (relaid(table.layers[0], 1, ("lots", 2), 2),
                                                            table.layers[1]))
        self.assertEqual(newer.kinds[0], ((LINE, ("lots", 2)), (LINE,)))
        self.assertTrue(only_tuples(newer.kinds))
        self.assertEqual(newer.gone_names, (("t", 0, 1, (0,)),))
        self.assertEqual([newer.lead("t", 0), newer.lead("t", 1)], [0, 1])

    def test_equality(self):
        version = example()
        self.assertEqual(version, example())
        self.assertEqual(version.put_row("t", (1,)), example().put_row("t", (1,)))
        store = version.store
        for unlike in (version.put_row("t", (0,)), first_version(store, [[[("lots", 1)]], [[LINE]]], 2),
                       first_version(store, [[[LINE]], [[LINE]]], 3),
                       first_version(store.with_marks([("u", 0, (0,), "put")]), [[[LINE]], [[LINE]]], 2)):
            self.assertIs(version == unlike, False)
            self.assertIs(version != unlike, True)
        for thing in (None, 0, store, version.kinds, "version"):
            self.assertIs(version == thing, False)

    def test_refusals_and_their_order(self):
        version = example()
        full = version.flush("t", [LINE]).flush("t", [LINE])
        for name in no_names() + ["x", "tt"]:
            for call in (("put_row", None), ("remove_row", None), ("flush", None), ("compact", 9),
                         ("relay", 9, 9, None), ("lead", 9)):
                for where in (version, full):
                    error = raised(getattr(where, call[0]), name, *call[1:])
                    self.assertEqual(error[0], "NoTable")
                    self.assertIs(error[1], name)
        for row in no_sequences() + [(), (4,), (-1,), (True,), (0, 0)]:
            for method in (version.put_row, version.remove_row):
                error = raised(method, "t", row)
                self.assertEqual(error[0], "BadRow")
                self.assertIs(error[1], row)
        for kinds in no_sequences() + [(), [LINE] * 4, LINE, [("split", (0, 1))], [LINE, None]]:
            self.assertEqual(raised(version.flush, "t", kinds), ("BadKinds",))
            self.assertEqual(raised(full.flush, "t", kinds), ("LayersFull", "t"))
        self.assertEqual(len(version.flush("t", [LINE] * 3).store.table_of("t").layers[0]), 3)
        for layer in no_integers() + [-1, 2, 3]:
            error = raised(full.compact, "t", layer)
            self.assertEqual(error[0], "NoLayer")
            self.assertIs(error[1], layer)
        self.assertEqual(raised(version.compact, "t", 0), ("NoLayer", 0))
        for layer in no_integers() + [-1, 3]:
            error = raised(full.relay, "t", layer, 9, None)
            self.assertEqual(error[0], "NoLayer")
            self.assertIs(error[1], layer)
        for index in no_integers() + [-1, 1]:
            error = raised(full.relay, "t", 2, index, None)
            self.assertEqual(error[0], "NoIndex")
            self.assertIs(error[1], index)
        for kind in no_sequences() + [("stretch", (1,)), ("lots", True)]:
            self.assertEqual(raised(full.relay, "t", 2, 0, kind), ("BadIndex", "kind"))
        self.assertEqual(version, example())

    def test_several_edits_from_one_version(self):
        version = example()
        one, other = version.put_row("t", (1,)), version.remove_row("t", (0,))
        self.assertEqual((one.number, other.number), (1, 1))
        self.assertEqual((one.store.rows_of("t"), other.store.rows_of("t")), (((0,), (1,), (2,)), ((2,),)))
        self.assertIs(one.before, other.before)
        self.assertNotEqual(one, other)

    def test_room_one(self):
        version = first_version(Store([one_table()]), [[[LINE]]], 1)
        for row in range(4):
            version = version.put_row("t", (row,))
        self.assertEqual(len(version.store.table_of("t").layers[0].indexes[0]), 4)
        for row in range(4):
            version = version.remove_row("t", (row,))
        self.assertEqual(len(version.store.table_of("t").layers[0].indexes[0]), 4)
        self.assertEqual(version.store.rows_of("t"), ())


class TestLead(unittest.TestCase):
    def test_version_zero(self):
        version = example()
        self.assertEqual([version.lead("t", 0), version.lead("u", 0)], [0, 0])
        for name in version.store.page_names:
            self.assertEqual(version.lead_name(name), name)
        for layer in no_integers() + [-1, 1]:
            error = raised(version.lead, "t", layer)
            self.assertEqual(error[0], "NoLayer")
            self.assertIs(error[1], layer)

    def test_layers_are_those_of_the_version_before(self):
        version = example().flush("t", [LINE])
        self.assertEqual(raised(version.lead, "t", 1), ("NoLayer", 1))
        newer = version.compact("t", 0)
        self.assertEqual([newer.lead("t", 0), newer.lead("t", 1)], [None, 0])
        self.assertEqual(raised(newer.lead, "t", 2), ("NoLayer", 2))
        self.assertEqual(raised(newer.lead, "u", 1), ("NoLayer", 1))

    def test_lead_name_of_anything_else(self):
        for version in (example(), example().put_row("t", (1,)), example().flush("t", [LINE])):
            good = ("t", 0, 0, (2,))
            self.assertIsNotNone(version.lead_name(good))
            wrong = [(), list(good), good[:3], good + (0,), ("x", 0, 0, (2,)), (None, 0, 0, (2,)), (["t"], 0, 0, (2,)),
                     ("t", 1, 0, (2,)), ("t", -1, 0, (2,)), ("t", False, 0, (2,)), ("t", 0, False, (2,)),
                     ("t", 0, 1, (2,)), ("t", 0, 0, (3,)), ("t", 0, 0, [2]), ("t", 0, 0, (4,)), ("t", 0, 0, ()),
                     ("t", 0, 0, (False,)), ("t", 0, 0, 2), ("t", 0, 0, None), ("t", 0, 0, (2, 0)), ("t", 0, {}, (2,)),
                     ("t", 0, 0, (2.0,)), "t000", version, good[3]]
            for thing in no_sequences() + wrong:
                self.assertIsNone(version.lead_name(thing), thing)

    def test_names_are_those_of_the_version_before(self):
        version = first_version(Store([one_table()]), [[[LINE]]], 1)
        version = version.put_row("t", (0,)).put_row("t", (3,))
        self.assertEqual([page.first for page in version.store.table_of("t").layers[0].indexes[0]], [(0,), (3,)])
        self.assertIsNone(version.lead_name(("t", 0, 0, (0,))))
        self.assertIsNone(version.lead_name(("t", 0, 0, (3,))))
        newer = version.put_row("t", (3,))
        self.assertEqual(newer.lead_name(("t", 0, 0, (3,))), ("t", 0, 0, (3,)))


class TestVersionAt(unittest.TestCase):
    def test_on_the_way_back(self):
        versions = [example()]
        for row in (1, 3, 1):
            versions.append(versions[-1].put_row("t", (row,)))
        for number, version in enumerate(versions):
            self.assertIs(version_at(versions[-1], number), version)
            self.assertIs(version_at(version, number), version)
            for thing in no_integers() + [-1, number + 1]:
                error = raised(version_at, version, thing)
                self.assertEqual(error[0], "BadNumber")
                self.assertIs(error[1], thing)

    def test_each_way_has_its_own(self):
        version = example()
        one, other = version.put_row("t", (1,)), version.put_row("t", (3,))
        far = other.put_row("t", (0,))
        self.assertIs(version_at(far, 1), other)
        self.assertIs(version_at(one, 0), version_at(far, 0))


class TestStanding(unittest.TestCase):
    def test_one_version(self):
        version = example()
        entries = list(version.store.each_entry())
        self.assertEqual(standing(entries, version, version), tuple(entries))
        self.assertEqual(standing(tuple(entries[::-1]), version, example()), tuple(entries[::-1]))
        foreign = ("t", 0, 0, page_of([(0,), (1,)]))
        self.assertEqual(standing([foreign, entries[0], foreign, entries[0]], version, version), (entries[0],) * 2)
        self.assertEqual(standing([], version, version), ())
        self.assertTrue(only_tuples(standing(entries, version, version)))

    def test_changed_and_changed_back(self):
        version = example()
        entries = list(version.store.each_entry())
        changed = version.put_row("t", (1,))
        self.assertEqual(standing(entries, version, changed), tuple(entries[1:]))
        back = changed.remove_row("t", (1,))
        self.assertEqual(standing(entries, version, back), tuple(entries[1:]))
        there = version.put_row("t", (3,)).remove_row("t", (2,)).put_row("t", (2,)).remove_row("t", (3,))
        again = there.put_row("t", (3,))
        first = there.before.before.before
        kept = list(first.store.each_entry())
        self.assertEqual(standing(kept, first, again), tuple(kept))
        self.assertEqual(len(standing(kept, first, there)), len(kept) - 1)

    def test_numbers_of_layers_are_those_of_the_later(self):
        version = example()
        entries = list(version.store.each_entry())
        later = version.flush("t", [LINE]).flush("t", [("lots", 2)])
        self.assertEqual(standing(entries, version, later),
                         (("t", 2) + entries[0][2:], ("t", 2) + entries[1][2:], entries[2]))
        joined = later.compact("t", 0).compact("t", 0)
        self.assertEqual(standing(entries, version, joined), tuple(entries))

    def test_a_layer_that_went_does_not_come_back(self):
        version = example().flush("t", [LINE])
        entries = [entry for entry in version.store.each_entry() if entry[:2] == ("t", 0)]
        later = version.compact("t", 0).flush("t", [LINE])
        self.assertTrue(later.store.holds(entries[0]))
        self.assertEqual(standing(entries, version, later), ())

    def test_not_before(self):
        version = example()
        one, other = version.put_row("t", (1,)), version.put_row("t", (3,))
        self.assertEqual(raised(standing, [], one, version), ("NotBefore",))
        self.assertEqual(raised(standing, [], one, other), ("NotBefore",))
        self.assertEqual(raised(standing, [], one, other.put_row("t", (0,))), ("NotBefore",))
        stranger = first_version(version.store, [[[("lots", 1)]], [[LINE]]], 2)
        self.assertEqual(raised(standing, [], stranger, one), ("NotBefore",))
        self.assertEqual(raised(standing, [], version, one), None)
        self.assertEqual(standing([], example(), one), ())


class TestManyEdits(unittest.TestCase):
    """Random stories, held against a plain dict of values and the words of [6.8]."""

    def test_stories(self):
        chance = seeded(61)
        for _ in range(40):
            version = random_version(chance)
            versions, edits = [version], []
            stores = [version.store.told]
            for _ in range(8):
                edit = random_edit(chance, version)
                newer = done(version, edit)
                self.hold_edit(version, edit, newer)
                version = newer
                versions.append(version)
                edits.append(edit)
                stores.append(version.store.told)
            for elder, told in zip(versions, stores):
                self.assertEqual(elder.store.told, told)
            self.hold_standing(chance, versions, edits)

    def hold_edit(self, version, edit, newer):
        expected = values(version.store)
        if edit[0] in ("put_row", "remove_row"):
            expected[(edit[1], edit[2])] = edit[0] == "put_row"
        self.assertEqual(values(newer.store), expected)
        self.assertEqual((newer.number, newer.before, newer.room), (version.number + 1, version, version.room))
        gone = []
        for entry in version.store.each_entry():
            name, layer, index, page = entry
            led = plain_lead(edit, version, name, layer)
            self.assertEqual(newer.lead(name, layer), led)
            stands = led is not None and any(other == (name, led, index, page) for other in newer.store.each_entry())
            self.assertEqual(newer.lead_name((name, layer, index, page.first)),
                             (name, led, index, page.first) if stands else None)
            gone += [] if stands else [entry]
        self.assertEqual(newer.gone, tuple(gone))
        self.assertEqual(newer.gone_names, tuple(entry[:3] + (entry[3].first,) for entry in gone))
        shape = [(name, tuple(len(kinds) for kinds in of_table)) for (name, _, _), of_table
                 in zip(newer.store.shape, newer.kinds)]
        self.assertEqual(shape, [(name, counts) for name, _, counts in newer.store.shape])

    def hold_standing(self, chance, versions, edits):
        for _ in range(12):
            low, high = sorted([chance.randrange(len(versions)), chance.randrange(len(versions))])
            entries = list(versions[chance.choice([low, low, high])].store.each_entry())
            chance.shuffle(entries)
            expected = []
            for entry in entries:
                name, layer, index, page = entry
                if not any(entry == other for other in versions[low].store.each_entry()):
                    continue
                for number in range(low, high):
                    if layer is not None:
                        layer = plain_lead(edits[number], versions[number], name, layer)
                if any(other == (name, layer, index, page) for other in versions[high].store.each_entry()):
                    expected.append((name, layer, index, page))
            self.assertEqual(standing(entries, versions[low], versions[high]), tuple(expected))


if __name__ == "__main__":
    unittest.main()
