"""Questions, stores and known pages for the tests, and the plain worth of a formula."""

import itertools

from fewfetches.errors import NoFactor
from fewfetches.knowledge import Known
from fewfetches.layers import Layer
from fewfetches.questions import Question
from fewfetches.relevant import check_factor, determined
from fewfetches.stores import Store
from tests.helpers import page_of, random_table, rows_of, seeded

WIDTHS = {"r": (3,), "s": (2, 2), "t": (4,)}
WORDS = ("all", "first", "count", "sum", "any")


def plain_value(term, point):
    return point[term[1]] if term[0] == "var" else term[1]


def plain_row(node, point):
    return node[1], tuple(plain_value(term, point) for term in node[2])


def plain_holds(node, point, worth):
    """Whether the formula holds at the point, by the words of [7.3]; worth is a function of name and row."""
    if node[0] == "row":
        return worth(*plain_row(node, point))
    if node[0] in ("same", "less"):
        one, other = plain_value(node[1], point), plain_value(node[2], point)
        return one == other if node[0] == "same" else one < other
    if node[0] == "not":
        return not plain_holds(node[1], point, worth)
    parts = [plain_holds(part, point, worth) for part in node[1]]
    return all(parts) if node[0] == "and" else any(parts)


def plain_rows(node, point):
    """The set of (name, row) that the formula asks at the point."""
    if node[0] == "row":
        return {plain_row(node, point)}
    if node[0] in ("same", "less"):
        return set()
    parts = (node[1],) if node[0] == "not" else node[1]
    return set().union(*[plain_rows(part, point) for part in parts])


def random_term(chance, widths, top):
    """A term that fits a column of the width top."""
    fitting = [("var", at) for at, width in enumerate(widths) if width <= top]
    if fitting and chance.random() < 0.8:
        return chance.choice(fitting)
    return "num", chance.randrange(top)


def random_formula(chance, tables, widths, deep=3, rows=None):
    """A formula of nodes at most so deep, with at most 5 row nodes."""
    rows = [5] if rows is None else rows
    word = chance.choice(["row", "row", "row", "and", "or", "not", "same", "less"])
    if deep == 1 and word in ("and", "or", "not"):
        word = "row"
    if word == "row" and rows[0] == 0:
        word = "less"
    if word == "row":
        rows[0] -= 1
        name, columns = chance.choice(tables)
        return "row", name, tuple(random_term(chance, widths, width) for width in columns)
    if word in ("same", "less"):
        return word, random_term(chance, widths, 4), random_term(chance, widths, 4)
    if word == "not":
        return "not", random_formula(chance, tables, widths, deep - 1, rows)
    many = chance.choice([0, 1, 2, 2, 3])
    return word, tuple(random_formula(chance, tables, widths, deep - 1, rows) for _ in range(many))


def random_kind(chance, many, word=None):
    word = word or chance.choice(WORDS)
    if word == "first":
        order = tuple(chance.choice([0, 0, 1, 2, -1, -3]) for _ in range(many))
        groups = tuple(variable for variable in range(many) if chance.random() < 0.4)
        return word, chance.choice([0, 1, 1, 2, 3, 20]), order, groups
    if word == "sum":
        return word, tuple(chance.choice([0, 1, 3]) for _ in range(many))
    return (word,)


def random_question(chance, word=None, deep=3):
    """A small question over some of the tables of WIDTHS."""
    names = sorted(chance.sample(sorted(WIDTHS), chance.choice([1, 2, 3])))
    tables = tuple((name, WIDTHS[name]) for name in names)
    widths = tuple(chance.choice([1, 2, 3, 4]) for _ in range(chance.choice([0, 1, 1, 2, 2])))
    formula = random_formula(chance, tables, widths, deep)
    return Question(tables, widths, formula, random_kind(chance, len(widths), word))


def random_store(chance, question, layers=None):
    """A store of the question's tables, with unlike layers and indexes."""
    return Store([random_table(chance, name, widths, layers) for name, widths in question.tables])


def some_known(chance, store, share=0.5):
    """Some pages of the store as known pages."""
    entries = [entry for entry in store.each_entry() if chance.random() < share]
    chance.shuffle(entries)
    return Known(store.shape, entries)


def name_of(entry):
    """The page name of an entry."""
    return entry[:3] + (entry[3].first,)


def all_points_of(question):
    return rows_of(question.widths)


def plain_fillings(known, rows):
    """All dicts from the rows to worths that agree with the known pages, False before True."""
    rows = sorted(rows)
    choices = [[False, True] if known.row_worth(*row) is None else [known.row_worth(*row)] for row in rows]
    return [dict(zip(rows, worths)) for worths in itertools.product(*choices)]


def filled_store(store, known, worths):
    """The store in which each unknown row (name, row) has its worth, marked in its first unknown layer alone."""
    changes = [(name, known.first_unknown(name, row), row, "put" if worth else "gone")
               for (name, row), worth in sorted(worths.items()) if known.row_worth(name, row) is None]
    return store.with_marks(changes)


def laid_layer(widths, marks, indexes):
    """A layer of these marks (row to mark); each index is told as lists of rows, one for each page."""
    return Layer(widths, [[page_of(rows, [(row, marks[row]) for row in rows if row in marks]) for rows in lots]
                          for lots in indexes])


def laid_line(marks, *indexes):
    """A layer of one column: marks is a text with "p" for put, "g" for gone and "-" for no mark in each row, and an
    index is a text of figures with a "/" between the pages: "01/2"."""
    told = {(at,): {"p": "put", "g": "gone"}[sign] for at, sign in enumerate(marks) if sign != "-"}
    return laid_layer((len(marks),), told, [[[(int(sign),) for sign in rows] for rows in index.split("/")]
                                            for index in indexes])


def all_known(store):
    return Known(store.shape, list(store.each_entry()))


def with_names(store, known, names):
    """The known pages and these of the store, by its entries."""
    more = known.twin()
    for entry in store.each_entry():
        if name_of(entry) in names and name_of(entry) not in known.names:
            more.add(entry)
    return more


def unknown_names(store, known):
    return [name for name in store.page_names if name not in known.names]


def small_stores(seed, many, kinds=WORDS, shares=(0, 0.3, 0.6)):
    """Small questions of these kinds, each with a store and some known pages of it."""
    chance = seeded(seed)
    for at in range(many):
        question = random_question(chance, kinds[at % len(kinds)])
        store = random_store(chance, question, chance.choice([1, 1, 2, None]))
        yield chance, question, store, some_known(chance, store, chance.choice(shares))


def settling_sets(chance, question, store, known, many=2):
    """Sets of unknown pages that determine the answer, from which pages were left out at random while they did."""
    for _ in range(many):
        names = unknown_names(store, known)
        for name in chance.sample(names, len(names)):
            fewer = [other for other in names if other != name]
            if determined(question, with_names(store, known, fewer)) is not None:
                names = fewer
        yield names


def promised(question):
    """Whether a factor is promised for the question."""
    try:
        check_factor(question)
    except NoFactor:
        return False
    return True
