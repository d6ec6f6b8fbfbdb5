"""Columns and rows: what an integer, a name, the widths of a table and a row of it are."""

from fewfetches.errors import BadRow, BadWidths

LETTERS = "abcdefghijklmnopqrstuvwxyz"
LONGEST_NAME = 12
MOST_COLUMNS = 3
WIDEST = 64
MOST_ROWS = 4096


def is_whole(thing, low=None, high=None):
    """Whether the thing is an integer from low to high; a bound that is None does not count."""
    if not isinstance(thing, int) or isinstance(thing, bool):
        return False
    return (low is None or low <= thing) and (high is None or thing <= high)


def is_name(thing):
    """Whether the thing is a string of 1 to 12 letters a to z."""
    if not isinstance(thing, str) or not 1 <= len(thing) <= LONGEST_NAME:
        return False
    return all([sign in LETTERS for sign in thing])


def is_sequence(thing, low=0, high=None):
    """Whether the thing is a list or a tuple of low to high items."""
    return isinstance(thing, (list, tuple)) and is_whole(len(thing), low, high)


def check_widths(widths):
    """The widths of a table as a tuple; raises BadWidths()."""
    if not is_sequence(widths, 1, MOST_COLUMNS):
        raise BadWidths()
    if not all([is_whole(width, 1, WIDEST) for width in widths]):
        raise BadWidths()
    if row_count(widths) > MOST_ROWS:
        raise BadWidths()
    return tuple(widths)


def check_row(widths, row):
    """The row as a tuple; raises BadRow(row)."""
    if not is_sequence(row, len(widths), len(widths)):
        raise BadRow(row)
    for value, width in zip(row, widths):
        if not is_whole(value, 0, width - 1):
            raise BadRow(row)
    return tuple(row)


def row_count(widths):
    """How many rows there are."""
    many = 1
    for width in widths:
        many = many * width
    return many


def row_number(widths, row):
    """How many rows stand ahead of the row."""
    number = 0
    for value, width in zip(row, widths):
        number = number * width + value
    return number


def row_at(widths, number):
    """The row that has this many rows ahead of it."""
    values = []
    rest = number
    for width in reversed(widths):
        values.append(rest % width)
        rest = rest // width
    return tuple(reversed(values))
