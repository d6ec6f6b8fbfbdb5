"""Layouts: the kinds that say how the rows of a table lie together, and how lots of rows are cut."""

from fewfetches.boxes import points_of, whole_box
from fewfetches.columns import is_sequence, is_whole, row_number
from fewfetches.errors import BadIndex, BadPage
from fewfetches.pages import Page
from fewfetches.partings import ordered_pages, parting_fault

MOST_ROOM = 4096
MOST_LOTS = 4096
WIDEST_STEP = 64


def check_kind(kind, widths):
    """The kind with tuples within; raises BadIndex("kind")."""
    if not is_sequence(kind, 2, 2) or not isinstance(kind[0], str):
        raise BadIndex("kind")
    word, told = kind
    checked = None
    if word == "stretch" or word == "split":
        checked = _checked_columns(told, widths)
    elif word == "grid":
        checked = _checked_steps(told, widths)
    elif word == "lots" and is_whole(told, 1, MOST_LOTS):
        checked = told
    elif word == "given":
        checked = _checked_places(told, widths)
    if checked is None:
        raise BadIndex("kind")
    return word, checked


def _checked_columns(columns, widths):
    """Each column's number exactly once, as a tuple, or None."""
    if not is_sequence(columns) or not all([is_whole(column) for column in columns]):
        return None
    if sorted(columns) != list(range(len(widths))):
        return None
    return tuple(columns)


def _checked_steps(steps, widths):
    """One step for each column, as a tuple, or None."""
    if not is_sequence(steps, len(widths), len(widths)):
        return None
    if not all([is_whole(step, 1, WIDEST_STEP) for step in steps]):
        return None
    return tuple(steps)


def _checked_places(places, widths):
    """Places that part all rows, each in slab form, ascending by their least rows, or None."""
    if not is_sequence(places, 1):
        return None
    pages = []
    for place in places:
        try:
            pages.append(Page(place))
        except BadPage:
            return None
    if parting_fault(widths, pages) is not None:
        return None
    return tuple([page.place for page in ordered_pages(pages)])


def check_room(room):
    """The room; raises BadIndex("room")."""
    if not is_whole(room, 1, MOST_ROOM):
        raise BadIndex("room")
    return room


def row_key(kind, row):
    """What rows are ordered by in an index of this kind."""
    if kind[0] == "stretch":
        return tuple([row[column] for column in kind[1]])
    return tuple(row)


def first_places(kind, widths):
    """The lots of rows with which an index of this kind begins, ascending by their least rows."""
    word, told = kind
    if word == "given":
        return tuple([page.rows for page in ordered_pages([Page(place) for place in told])])
    # rows are met in ascending order, and a dict keeps the order in which its keys were added
    lots = {}
    box = whole_box(widths)
    for row in points_of(box):
        lots.setdefault(_lot_key(word, told, widths, row), []).append(row)
    return tuple([tuple(lot) for lot in lots.values()])


def _lot_key(word, told, widths, row):
    """What the rows of one lot have in common."""
    if word == "grid":
        return tuple([value // step for value, step in zip(row, told)])
    if word == "lots":
        return row_number(widths, row) % told
    return 0


def cut_rows(kind, rows, marked):
    """A lot of rows cut in two by its marked rows: (lower, upper)."""
    ordered = sorted({tuple(row) for row in rows})
    if kind[0] == "split":
        column = _widest_column(kind[1], marked)
        border = _middle_value([row[column] for row in marked])
        keys = [row[column] for row in ordered]
    else:
        border = sorted([row_key(kind, row) for row in marked])[len(marked) // 2]
        keys = [row_key(kind, row) for row in ordered]
    lower = [row for row, key in zip(ordered, keys) if key < border]
    upper = [row for row, key in zip(ordered, keys) if not key < border]
    return tuple(lower), tuple(upper)


def _widest_column(columns, marked):
    """The column with the greatest span among the marked rows, of several the one told first."""
    widest = columns[0]
    greatest = -1
    for column in columns:
        values = [row[column] for row in marked]
        span = max(values) - min(values)
        if span > greatest:
            widest = column
            greatest = span
    return widest


def _middle_value(values):
    """The middle value, or the next greater one if the middle is the least: so both parts get one."""
    least = min(values)
    middle = sorted(values)[len(values) // 2]
    if middle > least:
        return middle
    return min([value for value in values if value > least])
