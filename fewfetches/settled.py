"""Boxes of points that known pages settle at once, and the pages that alone do so."""

from fewfetches.boxes import Box, points_of
from fewfetches.deciding import decided
from fewfetches.errors import NotDecided, NotUniform
from fewfetches.formulas import asked_row, comparison_holds, rows_at


def uniform(question, known, box):
    """True or False if the known pages settle so, part by part, the formula on the whole box, else None."""
    return _worth_over(question.formula, known, box)


def _worth_over(node, known, box):
    """The worth of the node over the box: True, False or None."""
    if node[0] == "row":
        return _common([known.row_worth(node[1], row) for row in _rows_over(node[2], box)])
    if node[0] == "same" or node[0] == "less":
        return _common([comparison_holds(node, values) for values in _values_over(node[1:], box)])
    if node[0] == "not":
        worth = _worth_over(node[1], known, box)
        return None if worth is None else not worth
    worths = [_worth_over(part, known, box) for part in node[1]]
    settling = node[0] == "or"
    if settling in worths:
        return settling
    return None if None in worths else not settling


def _common(worths):
    """The worth that all these are, or None."""
    return worths[0] if worths.count(worths[0]) == len(worths) else None


def _values_over(terms, box):
    """A dict from variable to value for each way in which the points of the box give values to these terms."""
    variables = sorted({term[1] for term in terms if term[0] == "var"})
    part = Box([box.lows[variable] for variable in variables], [box.highs[variable] for variable in variables])
    return [{variable: value for variable, value in zip(variables, values)} for values in points_of(part)]


def _rows_over(terms, box):
    """The unlike rows that a row node with these terms asks at the points of the box."""
    return [asked_row(terms, values) for values in _values_over(terms, box)]


def reasons(question, known, box):
    """The names of pages that alone settle the formula on the box, ascending; raises NotUniform()."""
    if uniform(question, known, box) is None:
        raise NotUniform()
    return tuple(sorted({name for name in _names_over(question.formula, known, box)}))


def _names_over(node, known, box):
    """The names of pages that alone give the node, of which the worth over the box is not None, that worth."""
    if node[0] == "row":
        return [name for row in _rows_over(node[2], box) for name in known.pages_for(node[1], row)]
    if node[0] == "same" or node[0] == "less":
        return []
    if node[0] == "not":
        return _names_over(node[1], known, box)
    worths = [_worth_over(part, known, box) for part in node[1]]
    settling = node[0] == "or"
    if settling in worths:
        return _names_over(node[1][worths.index(settling)], known, box)
    return [name for part in node[1] for name in _names_over(part, known, box)]


def point_reasons(question, known, point):
    """The names of pages that alone decide the point, ascending; raises NotDecided()."""
    if decided(question, known, point) is None:
        raise NotDecided()
    box = Box(point, [value + 1 for value in point])
    if uniform(question, known, box) is not None:
        return reasons(question, known, box)
    names = [page_name for name, row in rows_at(question, point) for page_name in known.pages_for(name, row)]
    return tuple(sorted({page_name for page_name in names}))
