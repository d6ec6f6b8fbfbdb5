"""Tables of layers and stores of tables, with the addresses of their pages."""

from fewfetches.columns import check_row, is_name, is_sequence, is_whole
from fewfetches.errors import BadChange, BadRow, BadStore, BadTable, NoIndex, NoLayer, NoTable
from fewfetches.layers import Layer, is_mark_or_none
from fewfetches.pages import Page

MOST_LAYERS = 3
MOST_TABLES = 8


def is_entry(thing):
    """Whether the thing is a tuple of a name, the numbers of a layer and an index, and a page."""
    if not isinstance(thing, tuple) or len(thing) != 4:
        return False
    name, layer, index, page = thing
    return is_name(name) and is_whole(layer, 0) and is_whole(index, 0) and isinstance(page, Page)


class Table:
    """A name and layers, numbered from the newest; the table never changes."""

    def __init__(self, name, layers):
        if not is_name(name):
            raise BadTable("name", None)
        if not is_sequence(layers, 1, MOST_LAYERS) or not all([isinstance(layer, Layer) for layer in layers]):
            raise BadTable("layers", None)
        for at, layer in enumerate(layers):
            if layer.widths != layers[0].widths:
                raise BadTable("widths", at)
        self.name = name
        self.widths = layers[0].widths
        self.layers = tuple(layers)
        self.rows = _rows_in(layers)
        self.told = (name, tuple([layer.told for layer in layers]))

    def __len__(self):
        return len(self.layers)

    def __eq__(self, other):
        return isinstance(other, Table) and self.name == other.name and self.layers == other.layers

    def layer_at(self, layer):
        """The layer of this number; raises NoLayer(layer)."""
        if not is_whole(layer, 0, len(self.layers) - 1):
            raise NoLayer(layer)
        return self.layers[layer]

    def first_mark(self, row):
        """The newest layer that marks the row, with the mark, or None; raises BadRow(row)."""
        checked = check_row(self.widths, row)
        for number, layer in enumerate(self.layers):
            mark = layer.mark(checked)
            if mark is not None:
                return number, mark
        return None

    def value(self, row):
        """Whether the row is in the table; raises BadRow(row)."""
        found = self.first_mark(row)
        return found is not None and found[1] == "put"

    @classmethod
    def of_told(cls, told):
        """The table of which this is the told."""
        return cls(told[0], [Layer.of_told(layer) for layer in told[1]])


def _rows_in(layers):
    """The ascending rows whose newest mark is "put"."""
    newest = {}
    for layer in layers:
        for row, mark in layer.marks:
            newest.setdefault(row, mark)
    return tuple([row for row in sorted(newest) if newest[row] == "put"])


class Store:
    """Tables ascending by name; the store never changes."""

    def __init__(self, tables):
        if not is_sequence(tables, 1, MOST_TABLES) or not all([isinstance(table, Table) for table in tables]):
            raise BadStore("tables", None)
        known = {}
        for at, table in enumerate(tables):
            if table.name in known:
                raise BadStore("name", at)
            known[table.name] = table
        self.tables = tuple([known[name] for name in sorted(known)])
        self.shape = tuple([(table.name, table.widths, tuple([len(layer) for layer in table.layers]))
                            for table in self.tables])
        self.told = tuple([table.told for table in self.tables])
        self._page_names = tuple([(name, layer, index, page.first) for name, layer, index, page in self.each_entry()])

    def __eq__(self, other):
        return isinstance(other, Store) and self.tables == other.tables

    @property
    def names(self):
        """The names of the tables, ascending."""
        return tuple([table.name for table in self.tables])

    @property
    def page_names(self):
        """All page names, ascending."""
        return self._page_names

    def table_of(self, name):
        """The table of this name; raises NoTable(name)."""
        for table in self.tables:
            if table.name == name:
                return table
        raise NoTable(name)

    def first_mark(self, name, row):
        """The newest layer that marks the row, with the mark, or None; raises NoTable(name), BadRow(row)."""
        return self.table_of(name).first_mark(row)

    def value(self, name, row):
        """Whether the row is in the table; raises NoTable(name), BadRow(row)."""
        return self.table_of(name).value(row)

    def rows_of(self, name):
        """The rows that are in the table, ascending; raises NoTable(name)."""
        return self.table_of(name).rows

    def read(self, name, layer, index, row):
        """The page that holds the row; raises NoTable(name), NoLayer(layer), NoIndex(index), BadRow(row)."""
        return self.table_of(name).layer_at(layer).read(index, row)

    def place_of(self, name, layer, index, row):
        """The name of the page that holds the row; raises as read does."""
        return name, layer, index, self.read(name, layer, index, row).first

    def each_entry(self):
        """Yields all entries, ascending by page name."""
        for table in self.tables:
            for number, layer in enumerate(table.layers):
                for at, index in enumerate(layer.indexes):
                    for page in index:
                        yield table.name, number, at, page

    def holds(self, entry):
        """Whether the thing is an entry and just this page lies at this address."""
        if not is_entry(entry):
            return False
        name, layer, index, page = entry
        try:
            return self.read(name, layer, index, page.first) == page
        except (NoTable, NoLayer, NoIndex, BadRow):
            return False

    def with_table(self, table):
        """The store in which this table replaces the one of its name; raises NoTable(name)."""
        self.table_of(table.name)
        return Store([table if kept.name == table.name else kept for kept in self.tables])

    def with_marks(self, changes):
        """The store of the same places with the changed marks; raises BadChange(at)."""
        if not is_sequence(changes):
            raise BadChange(None)
        changed = {}
        for at, change in enumerate(changes):
            name, layer, row, mark = self._check_change(at, change)
            changed.setdefault((name, layer), []).append((row, mark))
        return Store([_changed_table(table, changed) for table in self.tables])

    def _check_change(self, at, change):
        """The change with its row as a tuple; raises BadChange(at)."""
        if not is_sequence(change, 4, 4) or not is_mark_or_none(change[3]):
            raise BadChange(at)
        name, layer, row, mark = change
        try:
            table = self.table_of(name)
            table.layer_at(layer)
            return name, layer, check_row(table.widths, row), mark
        except (NoTable, NoLayer, BadRow):
            raise BadChange(at) from None

    @classmethod
    def of_told(cls, told):
        """The store of which this is the told."""
        return cls([Table.of_told(table) for table in told])


def _changed_table(table, changed):
    """The table with those of the changes that fall on its layers."""
    layers = []
    for number, layer in enumerate(table.layers):
        here = changed.get((table.name, number), [])
        layers.append(layer if len(here) == 0 else layer.with_marks(here))
    return Table(table.name, layers)
