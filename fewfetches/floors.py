"""Floors: trees that show that no fewer pages than a number determine an answer, and their judge."""

from fewfetches.columns import is_whole
from fewfetches.knowledge import is_page_name
from fewfetches.least import first_reader
from fewfetches.relevant import check_factor


def floor_of(question, store, known, number):
    """A floor of the number, or None if fewer pages determine the answer; raises NoFactor(what)."""
    check_factor(question)
    return _floor(first_reader(question, store, known), number)


def _floor(reader, number):
    if number == 0:
        return ()
    point = reader.open_point()
    if point is None:
        return None
    branches = []
    if number > 1:
        for page_name in reader.gaining(point):
            lower = _floor(reader.with_page(page_name), number - 1)
            if lower is None:
                return None
            branches.append((page_name, lower))
    return point, tuple(branches)


def floor_fault(question, store, known, number, floor):
    """None, or the first fault of the floor in preorder, (place, what); raises NoFactor(what)."""
    check_factor(question)
    return _fault(first_reader(question, store, known), number, floor, ())


def _fault(reader, number, floor, place):
    """The first fault of the part of a floor that stands at this place, or None."""
    word = _node_word(reader, number, floor)
    if word is not None:
        return place, word
    if number > 1:
        for at, (page_name, lower) in enumerate(floor[1]):
            fault = _fault(reader.with_page(page_name), number - 1, lower, place + (at,))
            if fault is not None:
                return fault
    return None


def _node_word(reader, number, floor):
    """The word for what is wrong with the node itself, or None."""
    if number == 0:
        return None if isinstance(floor, tuple) and len(floor) == 0 else "node"
    if not _is_couple(floor) or not isinstance(floor[1], tuple):
        return "node"
    if not all([_is_couple(branch) for branch in floor[1]]):
        return "node"
    point, branches = floor
    if not _is_point(reader.question, point) or not reader.counts(point):
        return "point"
    names = tuple([branch[0] for branch in branches])
    if number == 1:
        return None if len(names) == 0 else "pages"
    # a truth is equal to a number, so what is equal to a page name need not be one
    if all([is_page_name(name) for name in names]) and names == reader.gaining(point):
        return None
    return "pages"


def _is_couple(thing):
    """Whether the thing is a tuple of two."""
    return isinstance(thing, tuple) and len(thing) == 2


def _is_point(question, thing):
    """Whether the thing is a point of the question."""
    if not isinstance(thing, tuple) or len(thing) != len(question.widths):
        return False
    return all([is_whole(value, 0, width - 1) for value, width in zip(thing, question.widths)])
