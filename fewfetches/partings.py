"""Partings: whether pages hold each row of a table exactly once, and what such pages tell together."""

from fewfetches.columns import row_at, row_count


def parting_fault(widths, pages):
    """The first fault of the pages as an index of all rows of the widths, (what, row), or None."""
    beyond = [row for page in pages for row in page.rows if not _fits(widths, row)]
    if len(beyond) > 0:
        return "beyond", min(beyond)
    times = {}
    for page in pages:
        for row in page.rows:
            times[row] = times.get(row, 0) + 1
    for number in range(row_count(widths)):
        row = row_at(widths, number)
        if row not in times:
            return "lack", row
        if times[row] > 1:
            return "twice", row
    return None


def _fits(widths, row):
    """Whether a row of a page, of which no value is below 0, is a row of the widths."""
    return len(row) == len(widths) and all([value < width for value, width in zip(row, widths)])


def page_at(pages, row):
    """The first page that holds the row, or None."""
    for page in pages:
        if page.holds(row):
            return page
    return None


def ordered_pages(pages):
    """The pages ascending by first; pages with one first keep their order."""
    return tuple(sorted(pages, key=lambda page: page.first))


def marks_of(pages):
    """All marks of the pages in ascending order."""
    return tuple(sorted([entry for page in pages for entry in page.marks]))


def is_finer(pages, others):
    """Whether for each of the pages some page of the others holds all its rows."""
    holders = {}
    for number, other in enumerate(others):
        for row in other.rows:
            holders.setdefault(row, []).append(number)
    return all([_lies_in_one(page, holders) for page in pages])


def _lies_in_one(page, holders):
    """Whether one number stands among the holders of every row of the page."""
    for number in holders.get(page.first, []):
        if all([number in holders.get(row, []) for row in page.rows]):
            return True
    return False
