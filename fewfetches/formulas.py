"""Formulas: the points of a question, the rows that it asks there, its worth, and how its tables stand."""

from fewfetches.boxes import points_of, whole_box
from fewfetches.questions import parts_of


def all_points(widths):
    """Yields all points of variables of these widths in ascending order."""
    box = whole_box(widths)
    for point in points_of(box):
        yield point


def row_nodes(question):
    """The unlike couples (name, terms) of the row nodes, as they first stand in preorder."""
    unlike = {}
    for name, terms, _ in _row_places(question):
        unlike[(name, terms)] = True
    return tuple(unlike)


def _row_places(question):
    """(name, terms, plain) of each row node in preorder; plain: an even number of "not" stands above it."""
    places = []
    waiting = [(question.formula, True)]
    while len(waiting) > 0:
        node, plain = waiting.pop()
        if node[0] == "row":
            places.append((node[1], node[2], plain))
        below = plain != (node[0] == "not")
        for part in reversed(parts_of(node)):
            waiting.append((part, below))
    return places


def _term_value(term, point):
    return point[term[1]] if term[0] == "var" else term[1]


def asked_row(terms, point):
    """The row that a row node with these terms asks at the point."""
    return tuple([_term_value(term, point) for term in terms])


def rows_at(question, point):
    """The unlike couples (name, row) that the row nodes ask at the point, ascending."""
    return tuple(sorted({(name, asked_row(terms, point)) for name, terms in row_nodes(question)}))


def comparison_holds(node, point):
    """Whether a "same" or "less" node holds at the point."""
    one = _term_value(node[1], point)
    other = _term_value(node[2], point)
    return one == other if node[0] == "same" else one < other


def formula_worth(question, point, worths):
    """Whether the formula holds at the point if each row (name, row) has its worth in worths."""
    bits = {couple: 1 if worths[couple] else 0 for couple in rows_at(question, point)}
    return worth_bits(question.formula, point, bits, 1) == 1


def worth_bits(node, point, bits, full):
    """The worths of the node at the point in several cases at once, one bit of an integer for each case.

    bits has such an integer for each row (name, row); full is the integer with all bits set."""
    word = node[0]
    if word == "row":
        return bits[(node[1], asked_row(node[2], point))]
    if word == "not":
        return full ^ worth_bits(node[1], point, bits, full)
    if word == "and":
        held = full
        for part in node[1]:
            held = held & worth_bits(part, point, bits, full)
        return held
    if word == "or":
        held = 0
        for part in node[1]:
            held = held | worth_bits(part, point, bits, full)
        return held
    return full if comparison_holds(node, point) else 0


def point_worth(question, store, point):
    """Whether the formula holds at the point in the store."""
    worths = {(name, row): store.value(name, row) for name, row in rows_at(question, point)}
    return formula_worth(question, point, worths)


def polarity(question, name):
    """How the row nodes of the table stand: "plain", "denied", "both" or "none"."""
    stands = [plain for table, _, plain in _row_places(question) if table == name]
    if len(stands) == 0:
        return "none"
    if all(stands):
        return "plain"
    return "both" if any(stands) else "denied"


def is_one_way(question):
    """Whether no table stands both plain and denied."""
    return all([polarity(question, name) != "both" for name, _ in question.tables])
