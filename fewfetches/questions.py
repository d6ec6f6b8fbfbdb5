"""Questions: tables, variables, a formula about rows, and the kind of answer that is asked for."""

from fewfetches.columns import check_widths, is_name, is_sequence, is_whole, row_count
from fewfetches.errors import BadQuestion, BadWidths

MOST_QUESTION_TABLES = 8
MOST_VARIABLES = 5
WIDEST_VARIABLE = 64
MOST_POINTS = 32768
MOST_NODES = 60
DEEPEST_NODE = 12
MOST_ROW_NODES = 8
MOST_PARTS = 8
GREATEST_NUMBER = 63
GREATEST_WEIGHT = 1000
# the words of the nodes and of the kinds, each with its number of items
NODES = {"row": 3, "same": 3, "less": 3, "and": 2, "or": 2, "not": 2}
KINDS = {"all": 1, "first": 4, "count": 1, "sum": 2, "any": 1}


class Question:
    """At which points a formula about rows holds; it can be read without any store."""

    def __init__(self, tables, widths, formula, kind):
        _check_tables(tables)
        _check_variables(widths)
        if row_count(widths) > MOST_POINTS:
            raise BadQuestion("points", 0)
        _check_formula({name: columns for name, columns in tables}, widths, formula)
        _check_kind(kind, len(widths))
        self.tables = frozen(tables)
        self.widths = tuple(widths)
        self.formula = frozen(formula)
        self.kind = frozen(kind)
        self.points_many = row_count(widths)
        self.told = (self.tables, self.widths, self.formula, self.kind)

    @classmethod
    def of_told(cls, told):
        """The question of which this is the told; raises BadQuestion(what, at)."""
        if not is_sequence(told, 4, 4):
            raise BadQuestion("tables", 0)
        return cls(told[0], told[1], told[2], told[3])

    def __eq__(self, other):
        return isinstance(other, Question) and self.told == other.told


def frozen(thing):
    """The thing with tuples for the lists in it, at every depth."""
    if is_sequence(thing):
        return tuple([frozen(item) for item in thing])
    return thing


def _check_tables(tables):
    """Raises BadQuestion for the first couple that is wrong."""
    if not is_sequence(tables, 1, MOST_QUESTION_TABLES):
        raise BadQuestion("tables", 0)
    before = ""
    for at, couple in enumerate(tables):
        if not is_sequence(couple, 2, 2) or not is_name(couple[0]) or not before < couple[0]:
            raise BadQuestion("tables", at)
        before = couple[0]
        try:
            check_widths(couple[1])
        except BadWidths:
            raise BadQuestion("tables", at) from None


def _check_variables(widths):
    """Raises BadQuestion for the first width of a variable that is wrong."""
    if not is_sequence(widths, 0, MOST_VARIABLES):
        raise BadQuestion("widths", 0)
    for at, width in enumerate(widths):
        if not is_whole(width, 1, WIDEST_VARIABLE):
            raise BadQuestion("widths", at)


def _check_formula(tables, widths, formula):
    """Raises BadQuestion for the first fault of the node with the least number in preorder."""
    number = 0
    row_nodes = 0
    waiting = [(formula, 1)]
    while len(waiting) > 0:
        node, deep = waiting.pop()
        if number >= MOST_NODES:
            raise BadQuestion("many", number)
        if deep > DEEPEST_NODE:
            raise BadQuestion("deep", number)
        if not _is_node(node):
            raise BadQuestion("node", number)
        if node[0] == "row":
            row_nodes += 1
        word = _node_fault(node, tables, widths, row_nodes)
        if word is not None:
            raise BadQuestion(word, number)
        number += 1
        for part in reversed(parts_of(node)):
            waiting.append((part, deep + 1))


def _is_node(node):
    """Whether the node is a sequence that begins with a word and has as many items as this asks."""
    if not is_sequence(node, 1) or not isinstance(node[0], str):
        return False
    return NODES.get(node[0]) == len(node)


def parts_of(node):
    """The nodes that stand straight below the node, from left to right."""
    if node[0] == "and" or node[0] == "or":
        return node[1]
    if node[0] == "not":
        return (node[1],)
    return ()


def _node_fault(node, tables, widths, row_nodes):
    """The word for what is wrong with the items of the node, or None."""
    if node[0] == "row":
        return _row_fault(node, tables, widths, row_nodes)
    if node[0] == "same" or node[0] == "less":
        if not _is_term(node[1], widths) or not _is_term(node[2], widths):
            return "term"
    if node[0] == "and" or node[0] == "or":
        if not is_sequence(node[1], 0, MOST_PARTS):
            return "parts"
    return None


def _row_fault(node, tables, widths, row_nodes):
    """The word for what is wrong with a row node, or None; row_nodes are those up to this one."""
    _, name, terms = node
    if row_nodes > MOST_ROW_NODES:
        return "rows"
    if not isinstance(name, str) or name not in tables:
        return "table"
    columns = tables[name]
    if not is_sequence(terms, len(columns), len(columns)):
        return "terms"
    for term, width in zip(terms, columns):
        if not _is_term(term, widths):
            return "term"
        least_width = widths[term[1]] if term[0] == "var" else term[1] + 1
        if least_width > width:
            return "outside"
    return None


def _is_term(term, widths):
    """Whether the thing is a term over variables of these widths."""
    if not is_sequence(term, 2, 2) or not isinstance(term[0], str):
        return False
    if term[0] == "var":
        return is_whole(term[1], 0, len(widths) - 1)
    return term[0] == "num" and is_whole(term[1], 0, GREATEST_NUMBER)


def _check_kind(kind, many):
    """Raises BadQuestion for what is wrong with the kind of a question of so many variables."""
    if not is_sequence(kind, 1) or not isinstance(kind[0], str) or KINDS.get(kind[0]) != len(kind):
        raise BadQuestion("kind", 0)
    if kind[0] == "sum" and not _are_weights(kind[1], many, 0):
        raise BadQuestion("kind", 1)
    if kind[0] == "first":
        if not is_whole(kind[1], 0, MOST_POINTS):
            raise BadQuestion("kind", 1)
        if not _are_weights(kind[2], many, -GREATEST_WEIGHT):
            raise BadQuestion("kind", 2)
        if not _are_groups(kind[3], many):
            raise BadQuestion("kind", 3)


def _are_weights(thing, many, least):
    """Whether the thing is a sequence of one weight for each variable."""
    return is_sequence(thing, many, many) and all([is_whole(item, least, GREATEST_WEIGHT) for item in thing])


def _are_groups(thing, many):
    """Whether the thing is an ascending sequence of unlike variable numbers."""
    if not is_sequence(thing) or not all([is_whole(item, 0, many - 1) for item in thing]):
        return False
    return all([thing[at - 1] < thing[at] for at in range(1, len(thing))])
