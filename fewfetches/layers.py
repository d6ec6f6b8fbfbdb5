"""Layers: one to three indexes of all rows of the same widths, which bear the same marks."""

from fewfetches.columns import check_row, check_widths, is_sequence, is_whole
from fewfetches.errors import BadChange, BadLayer, BadRow, BadWidths, NoIndex
from fewfetches.pages import Page, is_mark
from fewfetches.partings import marks_of, ordered_pages, parting_fault

MOST_INDEXES = 3


def is_mark_or_none(thing):
    """Whether the thing is what a change may make of a row."""
    return thing is None or is_mark(thing)


class Layer:
    """Indexes numbered from 0; the layer never changes."""

    def __init__(self, widths, indexes):
        try:
            self.widths = check_widths(widths)
        except BadWidths:
            raise BadLayer("widths", None) from None
        if not is_sequence(indexes, 1, MOST_INDEXES):
            raise BadLayer("indexes", None)
        kept = []
        for at, index in enumerate(indexes):
            _check_index(self.widths, at, index)
            kept.append(ordered_pages(index))
            if marks_of(kept[at]) != marks_of(kept[0]):
                raise BadLayer("marks", at)
        self.indexes = tuple(kept)
        self.marks = marks_of(kept[0])
        self.told = (self.widths, tuple([tuple([page.told for page in index]) for index in kept]))
        # by index and row: the page that holds the row
        self._lying = [{row: page for page in index for row in page.rows} for index in kept]

    def __len__(self):
        return len(self.indexes)

    def __eq__(self, other):
        return isinstance(other, Layer) and self.widths == other.widths and self.indexes == other.indexes

    def mark(self, row):
        """The mark of the row, or None; raises BadRow(row)."""
        checked = check_row(self.widths, row)
        return self._lying[0][checked].mark(checked)

    def read(self, index, row):
        """The page of this index that holds the row; raises NoIndex(index), BadRow(row)."""
        if not is_whole(index, 0, len(self.indexes) - 1):
            raise NoIndex(index)
        return self._lying[index][check_row(self.widths, row)]

    def with_marks(self, changes):
        """The layer of the same places with the changed marks in all indexes; raises BadChange(at)."""
        if not is_sequence(changes):
            raise BadChange(None)
        changed = {}
        for at, change in enumerate(changes):
            row, mark = _check_change(self.widths, at, change)
            changed[row] = mark
        indexes = [[_changed_page(page, changed) for page in index] for index in self.indexes]
        return Layer(self.widths, indexes)

    @classmethod
    def of_told(cls, told):
        """The layer of which this is the told."""
        return cls(told[0], [[Page.of_told(page) for page in index] for index in told[1]])


def _check_index(widths, at, index):
    """Raises BadLayer for what is wrong with the pages of one index."""
    if not is_sequence(index, 1) or not all([isinstance(page, Page) for page in index]):
        raise BadLayer("pages", at)
    if parting_fault(widths, index) is not None:
        raise BadLayer("parting", at)


def _check_change(widths, at, change):
    """The row and mark of a change; raises BadChange(at)."""
    if not is_sequence(change, 2, 2) or not is_mark_or_none(change[1]):
        raise BadChange(at)
    try:
        return check_row(widths, change[0]), change[1]
    except BadRow:
        raise BadChange(at) from None


def _changed_page(page, changed):
    """The page with those of the changes that fall on its rows."""
    here = [(row, changed[row]) for row in page.rows if row in changed]
    if len(here) == 0:
        return page
    return page.with_marks(here)
