"""Pages: a set of rows in slab form, with the marks of exactly these rows."""

from fewfetches.boxes import Box, points_of
from fewfetches.columns import is_sequence, is_whole
from fewfetches.errors import BadPage

MARKS = ("put", "gone")
MOST_PAGE_COLUMNS = 3


def slabs_of(rows):
    """The slab form of the rows: a tuple of boxes, ascending by lows."""
    unlike = sorted({tuple(row) for row in rows})
    if len(unlike) == 0:
        return ()
    return tuple([Box(lows, highs) for lows, highs in _slabs(unlike)])


def _slabs(rows):
    """The lows and highs of the slab form of ascending unlike rows."""
    if len(rows[0]) == 0:
        return [((), ())]
    sections = {}
    for row in rows:
        sections.setdefault(row[0], []).append(row[1:])
    slabs = []
    for low, high in _runs(sections):
        for lows, highs in _slabs(sections[low]):
            slabs.append(((low,) + lows, (high,) + highs))
    return slabs


def _runs(sections):
    """The greatest runs of following values with one and the same section, as (low, high)."""
    runs = []
    for value in sections:
        if len(runs) > 0 and runs[-1][1] == value and sections[runs[-1][0]] == sections[value]:
            runs[-1] = (runs[-1][0], value + 1)
        else:
            runs.append((value, value + 1))
    return runs


def is_mark(thing):
    """Whether the thing is "put" or "gone"."""
    return isinstance(thing, str) and thing in MARKS


def _check_entries(entries, bare, twice):
    """A dict from row to last mark; bare and twice tell whether None may be a mark and a row may repeat."""
    if not is_sequence(entries):
        raise BadPage("mark")
    marks = {}
    for entry in entries:
        if not is_sequence(entry, 2, 2):
            raise BadPage("mark")
        row, mark = entry
        if not is_sequence(row) or not all([is_whole(value) for value in row]):
            raise BadPage("mark")
        if not is_mark(mark) and not (bare and mark is None):
            raise BadPage("mark")
        if tuple(row) in marks and not twice:
            raise BadPage("mark")
        marks[tuple(row)] = mark
    return marks


def check_marks(marks):
    """The marks in ascending order; raises BadPage("mark")."""
    checked = _check_entries(marks, False, False)
    return tuple([(row, checked[row]) for row in sorted(checked)])


def check_changes(changes):
    """The rows of the changes, each with its last mark, ascending; raises BadPage("mark")."""
    checked = _check_entries(changes, True, True)
    return tuple([(row, checked[row]) for row in sorted(checked)])


def _rows_of_place(place):
    """The ascending rows of the boxes; raises BadPage for what is wrong with them."""
    if not is_sequence(place, 1):
        raise BadPage("place")
    if not all([isinstance(box, Box) for box in place]):
        raise BadPage("place")
    columns = len(place[0].lows)
    if not 1 <= columns <= MOST_PAGE_COLUMNS or any([len(box.lows) != columns for box in place]):
        raise BadPage("columns")
    rows = sorted([row for box in place for row in points_of(box)])
    if any([rows[at - 1] == rows[at] for at in range(1, len(rows))]):
        raise BadPage("across")
    return tuple(rows)


class Page:
    """A place and the marks of its rows; it never changes."""

    def __init__(self, place, marks=()):
        rows = _rows_of_place(place)
        checked = check_marks(marks)
        held = {row: None for row in rows}
        for row, mark in checked:
            if row not in held:
                raise BadPage("outside")
            held[row] = mark
        self.place = slabs_of(rows)
        self.marks = checked
        self.rows = rows
        self.first = rows[0]
        self.told = (tuple([box.told for box in self.place]), self.marks)
        self._held = held

    def holds(self, row):
        """Whether the row lies in the place."""
        return tuple(row) in self._held

    def mark(self, row):
        """The mark of the row, or None."""
        return self._held.get(tuple(row))

    def with_marks(self, changes):
        """The page of the same place in which each row of the changes has its last mark there."""
        checked = check_changes(changes)
        held = {row: self._held[row] for row in self._held}
        for row, mark in checked:
            if row not in held:
                raise BadPage("outside")
            held[row] = mark
        return Page(self.place, [(row, held[row]) for row in held if held[row] is not None])

    @classmethod
    def of_told(cls, told):
        """The page of which this is the told."""
        return cls([Box.of_told(box) for box in told[0]], told[1])

    def __eq__(self, other):
        return isinstance(other, Page) and self.place == other.place and self.marks == other.marks
