"""Known pages: pages that were read in one store, and what they tell about its rows."""

from fewfetches.columns import is_name, is_whole
from fewfetches.errors import Again, Foreign, NoPage, NoTable
from fewfetches.questions import frozen
from fewfetches.stores import is_entry

BARE = "none"


def find_shape(shape, name):
    """The (name, widths, counts) of the table; raises NoTable(name)."""
    for table in shape:
        if table[0] == name:
            return table
    raise NoTable(name)


def is_page_name(thing):
    """Whether the thing is a tuple of a name, the numbers of a layer and an index, and a row."""
    if not isinstance(thing, tuple) or len(thing) != 4 or not is_name(thing[0]) or not isinstance(thing[3], tuple):
        return False
    return all([is_whole(number) for number in thing[1:3] + thing[3]])


class Known:
    """Known pages of a store of some shape; only add changes them."""

    def __init__(self, shape, entries=()):
        self.shape = frozen(shape)
        self._pages = {}
        # by table, for each layer: what is known of a row, a mark or BARE
        self._marks = {}
        # by table, layer and index: the name of the known page that holds a row
        self._holders = {}
        for name, _, counts in self.shape:
            self._marks[name] = [{} for _ in counts]
            for layer, count in enumerate(counts):
                for index in range(count):
                    self._holders[(name, layer, index)] = {}
        for entry in entries:
            self.check_entry(entry)
            self._take(entry)

    def __eq__(self, other):
        return isinstance(other, Known) and self.shape == other.shape and self._pages == other._pages

    @property
    def entries(self):
        """All entries, ascending by page name."""
        return tuple([page_name[:3] + (self._pages[page_name],) for page_name in sorted(self._pages)])

    @property
    def names(self):
        """All page names, ascending."""
        return tuple(sorted(self._pages))

    @property
    def many(self):
        """How many pages are known."""
        return len(self._pages)

    def add(self, entry):
        """Makes a page known; raises Again(), Foreign()."""
        self.check_entry(entry)
        name, layer, index, _ = entry
        # twins share what they know of a layer and an index, so both are made anew ahead of a change
        marks = self._marks[name]
        self._marks[name] = marks[:layer] + [_copied(marks[layer])] + marks[layer + 1:]
        self._holders[(name, layer, index)] = _copied(self._holders[(name, layer, index)])
        self._take(entry)

    def check_entry(self, entry):
        """Raises Again() if the page is known there, Foreign() if no store holds it beside the known pages."""
        if not is_entry(entry):
            raise Foreign()
        name, layer, index, page = entry
        if self._pages.get((name, layer, index, page.first)) == page:
            raise Again()
        if (name, layer, index) not in self._holders:
            raise Foreign()
        _, widths, _ = find_shape(self.shape, name)
        if not all([_lies_within(box, widths) for box in page.place]):
            raise Foreign()
        holders = self._holders[(name, layer, index)]
        marks = self._marks[name][layer]
        for row in page.rows:
            mark = _mark_or_bare(page, row)
            if row in holders or marks.get(row, mark) != mark:
                raise Foreign()

    def _take(self, entry):
        """Makes a checked page known in dicts that no twin shares."""
        name, layer, index, page = entry
        page_name = (name, layer, index, page.first)
        self._pages[page_name] = page
        holders = self._holders[(name, layer, index)]
        marks = self._marks[name][layer]
        for row in page.rows:
            holders[row] = page_name
            marks[row] = _mark_or_bare(page, row)

    def has(self, name, layer, index, row):
        """Whether a known page of the index holds the row."""
        return row in self._holders[(name, layer, index)]

    def page_of(self, name, layer, index, row):
        """The name of the known page of the index that holds the row, or None."""
        return self._holders[(name, layer, index)].get(row)

    def page(self, page_name):
        """The known page of this name; raises NoPage(name)."""
        if not is_page_name(page_name) or page_name not in self._pages:
            raise NoPage(page_name)
        return self._pages[page_name]

    def mark(self, name, layer, row):
        """The mark of the row in the layer, "none" if a known page holds it without one, or None."""
        return self._marks[name][layer].get(row)

    def row_worth(self, name, row):
        """Whether the row is in the table, or None if that is not known."""
        for marks in self._marks[name]:
            mark = marks.get(row)
            if mark is None:
                return None
            if mark != BARE:
                return mark == "put"
        return False

    def first_unknown(self, name, row):
        """The first layer with an unknown mark on the way to the row's worth, or None if the worth is known."""
        for layer, marks in enumerate(self._marks[name]):
            mark = marks.get(row)
            if mark is None:
                return layer
            if mark != BARE:
                return None
        return None

    def pages_for(self, name, row):
        """The names of the pages by which the row's worth is known, ascending; () if it is not known."""
        names = []
        for layer, marks in enumerate(self._marks[name]):
            mark = marks.get(row)
            if mark is None:
                return ()
            names.append(self._least_holder(name, layer, row))
            if mark != BARE:
                break
        return tuple(names)

    def _least_holder(self, name, layer, row):
        """The name of the page that holds the row in the least index that has it."""
        index = 0
        while row not in self._holders[(name, layer, index)]:
            index += 1
        return self._holders[(name, layer, index)][row]

    def twin(self):
        """An equal Known that goes its own way."""
        other = Known(self.shape)
        other._pages = _copied(self._pages)
        other._marks = {name: list(self._marks[name]) for name in self._marks}
        other._holders = _copied(self._holders)
        return other

    def with_page(self, entry):
        """A twin to which the entry is added; raises Again(), Foreign()."""
        other = self.twin()
        other.add(entry)
        return other

    def only(self, names):
        """A Known with just these pages; raises NoPage(name) with the first that is not known."""
        kept = {page_name: self.page(page_name) for page_name in names}
        return self._with_only(kept)

    def without(self, names):
        """A Known without these pages; names that are not known mean nothing."""
        left_out = {page_name: True for page_name in names if is_page_name(page_name)}
        kept = {page_name: self._pages[page_name] for page_name in self._pages if page_name not in left_out}
        return self._with_only(kept)

    def _with_only(self, kept):
        """A Known of the shape with these pages of this one, which need no check."""
        fewer = Known(self.shape)
        for page_name, page in kept.items():
            fewer._take(page_name[:3] + (page,))
        return fewer


def _copied(table):
    return {key: table[key] for key in table}


def _mark_or_bare(page, row):
    mark = page.mark(row)
    return BARE if mark is None else mark


def _lies_within(box, widths):
    """Whether the points of the box are rows of the widths."""
    return len(box.highs) == len(widths) and all([high <= width for high, width in zip(box.highs, widths)])
