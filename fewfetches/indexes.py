"""Indexes: building the pages of one by its kind, and changing marks in one that lies there already."""

from fewfetches.columns import check_row
from fewfetches.errors import BadIndex, BadPage, BadRow
from fewfetches.layouts import check_kind, check_room, cut_rows, first_places, row_key
from fewfetches.pages import Page, check_changes, check_marks, slabs_of
from fewfetches.partings import ordered_pages


class Lot:
    """Rows that are to be one page, with their marks; elder is the page that they were, None once it is touched."""

    def __init__(self, rows, marks, elder, key):
        self.rows = rows
        self.marks = marks
        self.elder = elder
        self.key = key


def build_index(kind, widths, marks, room):
    """The index of this kind with these marks, at most room of them in a page; raises BadIndex(what)."""
    checked = check_kind(kind, widths)
    check_room(room)
    worths = {row: mark for row, mark in _fitting(check_marks, widths, marks)}
    pages = []
    for place in first_places(checked, widths):
        for rows in _cut_down(checked, place, worths, room):
            pages.append(Page(slabs_of(rows), _marks_among(rows, worths)))
    return ordered_pages(pages)


def _fitting(check, widths, entries):
    """The entries as the check returns them, all of rows of the widths; raises BadIndex("marks")."""
    try:
        checked = check(entries)
        for row, _ in checked:
            check_row(widths, row)
    except (BadPage, BadRow):
        raise BadIndex("marks") from None
    return checked


def _marks_among(rows, worths):
    """The marks of these rows."""
    return tuple([(row, worths[row]) for row in rows if row in worths])


def _cut_down(kind, rows, worths, room):
    """The parts into which the rows are cut until none has more than room marked rows."""
    whole = [rows]
    done = []
    while len(whole) > 0:
        part = whole.pop()
        marked = [row for row in part if row in worths]
        if len(marked) > room:
            lower, upper = cut_rows(kind, part, marked)
            whole.append(upper)
            whole.append(lower)
        else:
            done.append(part)
    return done


def change_index(kind, widths, room, index, changes):
    """The index with the changed marks, and the pages of the elder one that it has not; raises BadIndex(what)."""
    checked = check_kind(kind, widths)
    check_room(room)
    changed = {row: mark for row, mark in _fitting(check_changes, widths, changes)}
    lots = []
    for page in index:
        lots.extend(_lots_of_page(checked, room, page, changed))
    lots = _joined_lots(sorted(lots, key=lambda lot: lot.key), room)
    newer = ordered_pages([_page_of_lot(lot) for lot in lots])
    return newer, _gone_pages(index, newer)


def _least_key(kind, rows):
    return min([row_key(kind, row) for row in rows])


def _lots_of_page(kind, room, page, changed):
    """The page with its changed marks as one lot, or as several if it is touched and has too many."""
    here = [(row, changed[row]) for row in page.rows if row in changed]
    if all([page.mark(row) == mark for row, mark in here]):
        return [Lot(page.rows, page.marks, page, _least_key(kind, page.rows))]
    worths = {row: mark for row, mark in page.with_marks(here).marks}
    parts = _cut_down(kind, page.rows, worths, room)
    return [Lot(rows, _marks_among(rows, worths), None, _least_key(kind, rows)) for rows in parts]


def _joined_lots(lots, room):
    """The lots in order, where touched ones with few marks are joined with their neighbours."""
    joined = list(lots)
    at = 0
    # What stands ahead of at need not be looked at again: a lot there that could not be joined never can be,
    # since its neighbours only gain marks.
    while at < len(joined):
        if not _is_meagre(joined[at], room):
            at += 1
        elif at + 1 < len(joined) and _fit_together(joined[at], joined[at + 1], room):
            joined[at:at + 2] = [_both(joined[at], joined[at + 1])]
        elif at > 0 and _fit_together(joined[at - 1], joined[at], room):
            at -= 1
            joined[at:at + 2] = [_both(joined[at], joined[at + 1])]
        else:
            at += 1
    return joined


def _is_meagre(lot, room):
    """Whether the lot is touched and has fewer than half of room marks."""
    return lot.elder is None and 2 * len(lot.marks) < room


def _fit_together(one, other, room):
    return len(one.marks) + len(other.marks) <= room


def _both(one, other):
    """The touched lot with all rows and marks of a lot and the next one."""
    return Lot(one.rows + other.rows, one.marks + other.marks, None, one.key)


def _page_of_lot(lot):
    """The page that the lot was, or else a new one."""
    if lot.elder is not None:
        return lot.elder
    return Page(slabs_of(lot.rows), lot.marks)


def _gone_pages(index, newer):
    """The pages of the index to which no newer page is equal, ascending by first."""
    firsts = {page.first: page for page in newer}
    return tuple([page for page in ordered_pages(index) if firsts.get(page.first) != page])


def refined_index(index):
    """The index with one page for each row, with the same marks."""
    pages = []
    for page in index:
        for row in page.rows:
            mark = page.mark(row)
            pages.append(Page(slabs_of([row]), [] if mark is None else [(row, mark)]))
    return ordered_pages(pages)
