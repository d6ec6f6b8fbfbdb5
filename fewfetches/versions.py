"""Versions: a store with the kinds of its indexes, the edits that make newer ones, and what goes in each."""

from fewfetches.columns import check_row, is_sequence, is_whole
from fewfetches.compaction import check_kinds, compacted, empty_layer, relaid
from fewfetches.errors import (BadKinds, BadNumber, BadRow, LayersFull, NoIndex, NoLayer, NoTable, NotBefore)
from fewfetches.indexes import change_index
from fewfetches.layers import Layer
from fewfetches.layouts import check_kind, check_room
from fewfetches.stores import MOST_LAYERS, Table


def first_version(store, kinds, room):
    """Version 0 of the store; raises BadKinds(), BadIndex("room")."""
    checked = _kinds_of_store(store, kinds)
    check_room(room)
    return Version(None, store, checked, room, (None, ()))


def _kinds_of_store(store, kinds):
    """The kinds for each table, layer and index of the store; raises BadKinds()."""
    if not is_sequence(kinds, len(store.tables), len(store.tables)):
        raise BadKinds()
    checked = []
    for table, of_table in zip(store.tables, kinds):
        if not is_sequence(of_table, len(table), len(table)):
            raise BadKinds()
        of_layers = []
        for layer, of_layer in zip(table.layers, of_table):
            if not is_sequence(of_layer, len(layer), len(layer)):
                raise BadKinds()
            of_layers.append(check_kinds(of_layer, table.widths))
        checked.append(tuple(of_layers))
    return tuple(checked)


class Version:
    """A store, the kinds of its indexes and one room for all; the version never changes."""

    def __init__(self, before, store, kinds, room, edit):
        self.number = 0 if before is None else before.number + 1
        self.store = store
        self.kinds = kinds
        self.room = room
        self.before = before
        # the name of the table that the edit changed, and the number here of each layer that it had before
        self._edited, self._led = edit
        self.gone = () if before is None else self._gone_entries()

    def __eq__(self, other):
        return (isinstance(other, Version) and self.number == other.number and self.store == other.store
                and self.kinds == other.kinds and self.room == other.room)

    @property
    def gone_names(self):
        """The page names of gone."""
        return tuple([(name, layer, index, page.first) for name, layer, index, page in self.gone])

    def put_row(self, name, row):
        """The version in which the row is in the table; raises NoTable(name), BadRow(row)."""
        return self._with_mark(name, row, "put")

    def remove_row(self, name, row):
        """The version in which the row is not in the table; raises NoTable(name), BadRow(row)."""
        return self._with_mark(name, row, "gone")

    def flush(self, name, kinds):
        """The version with an empty layer ahead; raises NoTable(name), LayersFull(name), BadKinds()."""
        table = self.store.table_of(name)
        if len(table) == MOST_LAYERS:
            raise LayersFull(name)
        checked = check_kinds(kinds, table.widths)
        layers = (empty_layer(table.widths, checked, self.room),) + table.layers
        led = tuple([number + 1 for number in range(len(table))])
        return self._with_layers(name, layers, (checked,) + self._kinds_of(name), led)

    def compact(self, name, layer):
        """The version with one layer of this and the next older one; raises NoTable(name), NoLayer(layer)."""
        table = self.store.table_of(name)
        older = len(table) - 1
        if not is_whole(layer, 0, older - 1):
            raise NoLayer(layer)
        kinds = self._kinds_of(name)
        both = table.layers[layer:layer + 2]
        made = compacted(both[0], both[1], kinds[layer + 1], self.room, layer + 1 == older)
        layers = table.layers[:layer] + (made,) + table.layers[layer + 2:]
        led = tuple([_led_by_compaction(number, layer) for number in range(len(table))])
        return self._with_layers(name, layers, kinds[:layer] + kinds[layer + 1:], led)

    def relay(self, name, layer, index, kind):
        """The version with one index built anew by a kind.

        Raises NoTable(name), NoLayer(layer), NoIndex(index), BadIndex("kind")."""
        table = self.store.table_of(name)
        made = relaid(table.layer_at(layer), index, kind, self.room)
        kinds = self._kinds_of(name)
        relaid_kinds = _replaced(kinds[layer], index, check_kind(kind, table.widths))
        layers = _replaced(table.layers, layer, made)
        return self._with_layers(name, layers, _replaced(kinds, layer, relaid_kinds), tuple(range(len(table))))

    def lead(self, name, layer):
        """The number here of this layer before, or None; raises NoTable(name), NoLayer(layer)."""
        self._store_before().table_of(name).layer_at(layer)
        if name == self._edited:
            return self._led[layer]
        return layer

    def lead_name(self, page_name):
        """The page name here of a page of the version before that stands; None for anything else."""
        if not isinstance(page_name, tuple) or len(page_name) != 4 or not isinstance(page_name[3], tuple):
            return None
        name, layer, index, row = page_name
        try:
            page = self._store_before().read(name, layer, index, row)
        except (NoTable, NoLayer, NoIndex, BadRow):
            return None
        if page.first != row or not self._stands((name, layer, index, page)):
            return None
        return name, self.lead(name, layer), index, row

    def _store_before(self):
        """The store that leads are told of: the one before, or this one if there is none."""
        return self.store if self.before is None else self.before.store

    def _stands(self, entry):
        """Whether the entry of the version before lies here at its led address."""
        name, layer, index, page = entry
        led = self.lead(name, layer)
        return led is not None and self.store.holds((name, led, index, page))

    def _gone_entries(self):
        """The entries of the version before that do not stand; tables that were not edited have none."""
        entries = [entry for entry in self.before.store.each_entry() if entry[0] == self._edited]
        return tuple([entry for entry in entries if not self._stands(entry)])

    def _kinds_of(self, name):
        """The kinds of the table, for each of its layers."""
        return self.kinds[self.store.names.index(name)]

    def _with_mark(self, name, row, mark):
        """The version with the row marked in the newest layer."""
        table = self.store.table_of(name)
        changes = [(check_row(table.widths, row), mark)]
        kinds = self._kinds_of(name)
        indexes = []
        for kind, index in zip(kinds[0], table.layers[0].indexes):
            changed, _ = change_index(kind, table.widths, self.room, index, changes)
            indexes.append(changed)
        layers = _replaced(table.layers, 0, Layer(table.widths, indexes))
        return self._with_layers(name, layers, kinds, tuple(range(len(table))))

    def _with_layers(self, name, layers, kinds, led):
        """The next version, in which the table has these layers of these kinds."""
        store = self.store.with_table(Table(name, layers))
        all_kinds = _replaced(self.kinds, self.store.names.index(name), kinds)
        return Version(self, store, all_kinds, self.room, (name, led))


def _replaced(things, at, thing):
    """The tuple with another thing at this place."""
    return things[:at] + (thing,) + things[at + 1:]


def _led_by_compaction(number, layer):
    """The number of a layer behind the compaction of this layer and the next one."""
    if number == layer:
        return None
    return number if number < layer else number - 1


def version_at(version, number):
    """The version of this number on the way back; raises BadNumber(number)."""
    if not is_whole(number, 0, version.number):
        raise BadNumber(number)
    found = version
    while found.number > number:
        found = found.before
    return found


def standing(entries, elder, later):
    """The entries of the elder version that lie, led on, in the later one; raises NotBefore()."""
    if elder.number > later.number or version_at(later, elder.number) != elder:
        raise NotBefore()
    steps = [version_at(later, number) for number in range(elder.number + 1, later.number + 1)]
    found = []
    for entry in entries:
        if elder.store.holds(entry):
            led = _led_entry(entry, steps)
            if later.store.holds(led):
                found.append(led)
    return tuple(found)


def _led_entry(entry, steps):
    """The entry with the number of its layer behind all steps, or None if the layer went."""
    name, layer, index, page = entry
    for version in steps:
        layer = version.lead(name, layer)
        if layer is None:
            return None
    return name, layer, index, page
