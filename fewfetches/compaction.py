"""Compaction: one layer of two, layers without marks, and indexes that are built anew."""

from fewfetches.columns import check_widths, is_sequence, is_whole
from fewfetches.errors import BadIndex, BadKinds, NoIndex
from fewfetches.indexes import build_index, change_index
from fewfetches.layers import MOST_INDEXES, Layer
from fewfetches.layouts import check_kind


def overlaid(newer, older, oldest):
    """The marks of two layers as those of one; in the oldest layer no row is marked "gone"."""
    marks = {tuple(row): mark for row, mark in older}
    for row, mark in newer:
        marks[tuple(row)] = mark
    return tuple([(row, marks[row]) for row in sorted(marks) if not (oldest and marks[row] == "gone")])


def check_kinds(kinds, widths):
    """The kinds of a layer's indexes, each as check_kind returns it; raises BadKinds()."""
    if not is_sequence(kinds, 1, MOST_INDEXES):
        raise BadKinds()
    try:
        return tuple([check_kind(kind, widths) for kind in kinds])
    except BadIndex:
        raise BadKinds() from None


def empty_layer(widths, kinds, room):
    """A layer without marks, with an index of each kind; raises BadWidths(), BadKinds(), BadIndex("room")."""
    checked = check_widths(widths)
    checked_kinds = check_kinds(kinds, checked)
    return Layer(checked, [build_index(kind, checked, (), room) for kind in checked_kinds])


def compacted(newer, older, kinds, room, oldest):
    """One layer of two, with the older one's indexes, each changed with its kind."""
    before = {row: mark for row, mark in older.marks}
    after = {row: mark for row, mark in overlaid(newer.marks, older.marks, oldest)}
    rows = [row for row, _ in newer.marks] + [row for row, _ in older.marks]
    changes = [(row, after.get(row)) for row in rows if before.get(row) != after.get(row)]
    indexes = []
    for kind, index in zip(kinds, older.indexes):
        changed, _ = change_index(kind, older.widths, room, index, changes)
        indexes.append(changed)
    return Layer(older.widths, indexes)


def relaid(layer, index, kind, room):
    """The layer with one index built anew; raises NoIndex(index), BadIndex("kind"), BadIndex("room")."""
    if not is_whole(index, 0, len(layer) - 1):
        raise NoIndex(index)
    indexes = list(layer.indexes)
    indexes[index] = build_index(kind, layer.widths, layer.marks, room)
    return Layer(layer.widths, indexes)
