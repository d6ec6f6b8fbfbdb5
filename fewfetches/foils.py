"""Foils: stores that hold the same known pages and tell another answer."""

from fewfetches.deciding import first_filling
from fewfetches.errors import KnownRow
from fewfetches.formulas import all_points
from fewfetches.kinds import is_right
from fewfetches.relevant import check_factor, first_open


class Couple:
    """A result: two stores and a point at which they differ."""

    def __init__(self, one, other, point):
        self.one = one
        self.other = other
        self.point = point

    def __eq__(self, other):
        return (isinstance(other, Couple) and self.one == other.one and self.other == other.other
                and self.point == other.point)


def fill_rows(store, known, fills):
    """The store of the same places in which rows not known have these truths; raises KnownRow(name, row)."""
    changes = []
    for name, row, truth in fills:
        layer = known.first_unknown(name, row)
        if layer is None:
            raise KnownRow(name, row)
        changes.append((name, layer, row, "put" if truth else "gone"))
    return store.with_marks(changes)


def first_fills(question, known, point, worth):
    """The first filling with which the formula has this worth at the point, as fills, or None."""
    filling = first_filling(question, known, point, worth)
    if filling is None:
        return None
    return [(name, row, truth) for (name, row), truth in filling]


def two_stores(question, store, known):
    """Two stores with unlike answers that hold the known pages, or None; raises NoFactor(what)."""
    check_factor(question)
    point = first_open(question, known)
    if point is None:
        return None
    # Where each table is one way, the first filling that holds has no denied row in and the first that does not hold
    # has no plain row in: so under "count" and "sum" no other point holds in the second store alone.
    one = fill_rows(store, known, first_fills(question, known, point, True))
    other = fill_rows(store, known, first_fills(question, known, point, False))
    return Couple(one, other, point)


def find_foil(question, store, known, answer):
    """A store that holds the known pages and in which the answer is not right, or None; raises NoFactor("both")."""
    if question.kind[0] == "any":
        return _foil_for_any(question, store, known, answer)
    check_factor(question)
    if not is_right(question, store, answer):
        return store
    couple = two_stores(question, store, known)
    if couple is None:
        return None
    return couple.other if is_right(question, couple.one, answer) else couple.one


def _foil_for_any(question, store, known, answer):
    """As find_foil for "any": a store in which the point does not hold, or for None some point does."""
    points = list(all_points(question.widths)) if answer is None else [answer]
    for point in points:
        fills = first_fills(question, known, point, answer is None)
        if fills is not None:
            return fill_rows(store, known, fills)
    return None
