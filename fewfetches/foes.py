"""Foes: sources that lay their pages while they are read, so that every reader needs the factor times as many."""

from fewfetches.columns import check_row, is_sequence, is_whole
from fewfetches.errors import BadFoe, NoIndex, NoLayer
from fewfetches.formulas import all_points
from fewfetches.knowledge import find_shape
from fewfetches.layers import MOST_INDEXES, Layer
from fewfetches.pages import Page, slabs_of
from fewfetches.stores import Store, Table

MOST_BLOCKS = 64


class Asked:
    """What a question asks of a table: the terms of its row node, and whether that stands plain."""

    def __init__(self, name, terms, plain):
        self.name = name
        self.terms = terms
        self.plain = plain

    def variables(self):
        """The unlike variables of the row node, ascending."""
        return sorted({term[1] for term in self.terms if term[0] == "var"})

    def mark(self, holding):
        """The mark of a row that lets the formula hold at its points, or of one that refutes it there."""
        return "put" if holding == self.plain else None


def check_indexes(question, indexes):
    """The numbers of indexes of the question's tables as a tuple; raises BadFoe("indexes")."""
    if not is_sequence(indexes, len(question.tables), len(question.tables)):
        raise BadFoe("indexes")
    if not all([is_whole(many, 1, MOST_INDEXES) for many in indexes]):
        raise BadFoe("indexes")
    return tuple(indexes)


def asked_tables(question):
    """What the question asks of each table that it asks, by name; raises BadFoe("formula"), BadFoe("twice")."""
    nodes = question.formula[1] if question.formula[0] == "and" else (question.formula,)
    if len(nodes) == 0:
        raise BadFoe("formula")
    signed = []
    for node in nodes:
        inner = node[1] if node[0] == "not" else node
        if inner[0] != "row":
            raise BadFoe("formula")
        signed.append(Asked(inner[1], inner[2], node[0] != "not"))
    asked = {table.name: table for table in signed}
    if len(asked) < len(signed):
        raise BadFoe("twice")
    return asked


def source_shape(question, indexes):
    """The shape of a store of the question's tables with one layer each, of these numbers of indexes."""
    return tuple([(name, widths, (many,)) for (name, widths), many in zip(question.tables, indexes)])


def checked_read(shape, name, layer, index, row):
    """The row as a tuple; raises NoTable(name), NoLayer(layer), NoIndex(index), BadRow(row)."""
    _, widths, counts = find_shape(shape, name)
    if not is_whole(layer, 0, len(counts) - 1):
        raise NoLayer(layer)
    if not is_whole(index, 0, counts[layer] - 1):
        raise NoIndex(index)
    return check_row(widths, row)


def marked_page(rows, mark):
    """A page of these rows, all with this mark."""
    return Page(slabs_of(rows), [] if mark is None else [(row, mark) for row in rows])


class Foe:
    """A source for an "and" of tables: in each block one index, the last to be read, has a single page."""

    def __init__(self, question, indexes, *, blocks=1):
        self.question = question
        self.indexes = check_indexes(question, indexes)
        if question.kind[0] == "first" and question.kind[1] == 0:
            raise BadFoe("kind")
        self._asked = asked_tables(question)
        self.shape = source_shape(question, self.indexes)
        self.factor = sum([counts[0] for name, _, counts in self.shape if name in self._asked])
        _check_variables(question, list(self._asked.values()), self.factor)
        self._common = _common_variable(question, list(self._asked.values()), self.factor, blocks)
        self.blocks = blocks
        self.reads = ()
        # by block: the indexes (name, index) of which some page was returned
        self._begun = [{} for _ in range(blocks)]
        # by block: the index that has a single page there, once that is laid
        self._lasts = [None for _ in range(blocks)]
        # by index (name, index) and row: the page that was returned
        self._laid = {}

    def read(self, name, layer, index, row):
        """The page that holds the row; raises NoTable(name), NoLayer(layer), NoIndex(index), BadRow(row)."""
        checked = checked_read(self.shape, name, layer, index, row)
        if (name, index, checked) not in self._laid:
            page = self._new_page(name, index, checked)
            for held in page.rows:
                self._laid[(name, index, held)] = page
            self.reads = self.reads + ((name, layer, index, page.first),)
        return self._laid[(name, index, checked)]

    def _new_page(self, name, index, row):
        """The page that is laid for a row of which no page of this index was returned."""
        if name not in self._asked:
            return marked_page([row], None)
        block = self._block_of(name, row)
        begun = self._begun[block]
        if (name, index) not in begun and len(begun) == self.factor - 1:
            self._lasts[block] = (name, index)
        begun[(name, index)] = True
        if self._lasts[block] == (name, index):
            return marked_page(self._rows_in(name, block), self._asked[name].mark(False))
        return marked_page([row], self._asked[name].mark(False))

    def _block_of(self, name, row):
        """The block in which a row of an asked table lies."""
        if self._common is None:
            return 0
        column = self._asked[name].terms.index(("var", self._common))
        return min(row[column] // self.factor, self.blocks - 1)

    def _rows_in(self, name, block):
        """The rows of an asked table that lie in the block."""
        _, widths, _ = find_shape(self.shape, name)
        return [row for row in list(all_points(widths)) if self._block_of(name, row) == block]

    def _lasts_now(self):
        """By block: the index that has a single page there if nothing more is read."""
        lasts = []
        for last, begun in zip(self._lasts, self._begun):
            if last is None:
                last = min([(name, index) for name, _, counts in self.shape if name in self._asked
                            for index in range(counts[0]) if (name, index) not in begun])
            lasts.append(last)
        return lasts

    def now_store(self):
        """The store if nothing more is read."""
        lasts = self._lasts_now()
        tables = []
        for name, widths, counts in self.shape:
            indexes = [self._index_now(name, index, widths, lasts) for index in range(counts[0])]
            tables.append(Table(name, [Layer(widths, indexes)]))
        return Store(tables)

    def _index_now(self, name, index, widths, lasts):
        """The pages of an index if these are the last indexes of the blocks."""
        if name not in self._asked:
            return [marked_page([row], None) for row in list(all_points(widths))]
        mark = self._asked[name].mark(False)
        lots = {}
        for row in list(all_points(widths)):
            block = self._block_of(name, row)
            lots.setdefault(block if lasts[block] == (name, index) else row, []).append(row)
        return [marked_page(lot, mark) for lot in lots.values()]

    def enough_names(self):
        """The names of the single pages of the last indexes if nothing more is read, one for each block, ascending."""
        names = [(name, 0, index, self._rows_in(name, block)[0])
                 for block, (name, index) in enumerate(self._lasts_now())]
        return tuple(sorted(names))


def _check_variables(question, asked, factor):
    """Raises BadFoe("variable") or BadFoe("width") if a row node has too few variables or values."""
    for table in asked:
        if len(table.variables()) == 0:
            raise BadFoe("variable")
    for table in asked:
        if any([question.widths[variable] < factor for variable in table.variables()]):
            raise BadFoe("width")


def _common_variable(question, asked, factor, blocks):
    """The variable by whose values rows lie in blocks, or None for a single block; raises BadFoe("blocks")."""
    if not is_whole(blocks, 1, MOST_BLOCKS):
        raise BadFoe("blocks")
    if blocks == 1:
        return None
    for variable, width in enumerate(question.widths):
        if width >= factor * blocks and all([variable in table.variables() for table in asked]):
            return variable
    raise BadFoe("blocks")
