"""What the tests have in common: plain listings, wrong things and small makers."""

import copy
import itertools
import random

from fewfetches.boxes import Box
from fewfetches.layers import Layer
from fewfetches.pages import Page, slabs_of
from fewfetches.stores import Table

# each error class of the interface with its attributes
ERRORS = {
    "BadWidths": (), "BadRow": ("row",), "BadBox": ("what", "at"), "UnlikeBoxes": (), "BadColumn": ("column",),
    "BadData": (), "BadText": ("place",), "BadPage": ("what",), "BadIndex": ("what",), "BadLayer": ("what", "at"),
    "NoIndex": ("index",), "BadTable": ("what", "at"), "NoLayer": ("layer",), "BadStore": ("what", "at"),
    "NoTable": ("name",), "BadChange": ("at",), "BadKinds": (), "LayersFull": ("name",), "BadNumber": ("number",),
    "NotBefore": (), "BadQuestion": ("what", "at"), "Again": (), "Foreign": (), "NoPage": ("name",),
    "NoFactor": ("what",), "NotUniform": (), "NotDecided": (), "Undetermined": (), "BadPaper": ("line", "what"),
    "NotDone": (), "Unasked": (), "TooMany": ("most",), "NotEnough": (), "KnownRow": ("name", "row"),
    "BadFoe": ("what",), "BadPolicy": (), "BadDead": ("at",), "NoSpread": ("what",), "NotInDoubt": ("point",),
    "BadDeed": (), "NotNewest": (), "NothingCut": (), "Unfit": ("name",), "NotKnown": ("at",), "BadStory": ("line",),
}


def rows_of(widths):
    """All rows of the widths, ascending."""
    return list(itertools.product(*[range(width) for width in widths]))


def points_in(lows, highs):
    """All points from lows to highs, ascending."""
    return list(itertools.product(*[range(low, high) for low, high in zip(lows, highs)]))


class Odd:
    """An object that is nothing the document tells of."""

    def __deepcopy__(self, memo):
        return self


def no_sequences():
    """Things that are no sequence: no list and no tuple."""
    return [None, True, False, 0, 3, 1.5, "", "ab", b"ab", {}, {0: 1}, set(), {1}, frozenset([1]),
            range(2), iter([1]), (value for value in [1]), Odd(), Odd, len]


def no_integers():
    """Things that are no integer."""
    return [None, True, False, 0.0, 1.0, 1.5, "", "1", b"1", [], [1], (), (1,), {}, {1}, Odd(), Odd, len]


def no_names():
    """Things that are no name."""
    return [None, True, 3, "", "A", "aB", "a b", "a_b", "a1", "1", "a.b", " a", "a\n", "\u00e9", "\u00df", "\u0430",
            "abcdefghijklm", b"ab", ["a"], ("a",), {"a": 1}, {"a"}, Odd(), ["a", "b"]]


def seeded(number):
    """A source of random choices that is the same in every run."""
    return random.Random(number)


def raised(function, *given, **named):
    """The error that the call raises: (name of its class, its attributes), or None."""
    try:
        function(*given, **named)
    except ValueError as error:
        name = type(error).__name__
        return (name,) + tuple(getattr(error, attribute) for attribute in ERRORS[name])
    return None


def unchanged(test, function, *given):
    """Calls the function and checks that nothing that was passed in was changed."""
    before = copy.deepcopy(given)
    result = function(*given)
    test.assertEqual(before, given)
    return result


def only_tuples(thing):
    """Whether the sequences in the thing are tuples at every depth."""
    if isinstance(thing, (list, dict, set)):
        return False
    if isinstance(thing, tuple):
        return all(only_tuples(item) for item in thing)
    return True


def plain_slabs(rows):
    """The slab form of a set of rows by the words of [3.3]: couples (lows, highs), ascending by lows."""
    rows = {tuple(row) for row in rows}
    if not rows:
        return []
    if len(next(iter(rows))) == 1:
        values = {row[0] for row in rows}
        lows = sorted(value for value in values if value - 1 not in values)
        highs = sorted(value + 1 for value in values if value + 1 not in values)
        return [((low,), (high,)) for low, high in zip(lows, highs)]
    sections = {}
    for row in rows:
        sections.setdefault(row[0], set()).add(row[1:])
    slabs = []
    for low in range(64):
        if low in sections and sections.get(low - 1) != sections[low]:
            high = low
            while sections.get(high) == sections[low]:
                high += 1
            slabs += [((low,) + lows, (high,) + highs) for lows, highs in plain_slabs(sections[low])]
    return sorted(slabs)


def subsets(things):
    """All sets of the things, each as a list."""
    return [[thing for at, thing in enumerate(things) if number >> at & 1] for number in range(2 ** len(things))]


def random_parting(chance, rows, most):
    """The rows cut at random into lots, none empty."""
    lots = {}
    many = chance.randint(1, most)
    for row in rows:
        lots.setdefault(chance.randrange(many), []).append(row)
    return list(lots.values())


def random_marks(chance, rows, share=0.5):
    """MARKS of some of the rows."""
    return tuple((row, chance.choice(["put", "gone"])) for row in rows if chance.random() < share)


def plain_cut(kind, rows, marked):
    """The cut by the words of [4.5]."""
    many = len(marked)
    if kind[0] == "split":
        spans = [max(row[column] for row in marked) - min(row[column] for row in marked) for column in kind[1]]
        column = kind[1][spans.index(max(spans))]
        values = sorted(row[column] for row in marked)
        value = values[many // 2]
        if value == values[0]:
            value = [other for other in values if other > value][0]
        lower = [row for row in rows if row[column] < value]
    else:
        columns = kind[1] if kind[0] == "stretch" else range(len(rows[0]))
        keys = sorted([row[column] for column in columns] for row in marked)
        lower = [row for row in rows if [row[column] for column in columns] < keys[many // 2]]
    return tuple(sorted(lower)), tuple(sorted(set(rows) - set(lower)))


def all_kinds(widths):
    """A kind of each word for these widths, and a few more."""
    columns = tuple(range(len(widths)))
    rows = rows_of(widths)
    odd = [row for row in rows if sum(row) % 2]
    even = [row for row in rows if not sum(row) % 2]
    places = [[Box(row, [value + 1 for value in row]) for row in lot] for lot in (odd, even) if lot]
    return [("stretch", columns), ("stretch", columns[::-1]), ("split", columns), ("split", columns[::-1]),
            ("grid", (2,) * len(widths)), ("grid", (64,) * len(widths)), ("lots", 1), ("lots", 3), ("lots", 4096),
            ("given", tuple(places))]


def page_of(rows, marks=()):
    """A page of these rows."""
    return Page(slabs_of(rows), marks)


def random_index(chance, widths, marks, most=5):
    """An index of the widths that no kind built, with these marks."""
    lots = random_parting(chance, rows_of(widths), most)
    return tuple(sorted([page_of(lot, [mark for mark in marks if mark[0] in lot]) for lot in lots],
                        key=lambda page: page.first))


def random_layer(chance, widths, many):
    """A layer of so many indexes."""
    marks = random_marks(chance, rows_of(widths), chance.choice([0, 0.3, 0.8]))
    return Layer(widths, [random_index(chance, widths, marks) for _ in range(many)])


def random_table(chance, name, widths, layers=None):
    """A table of one to three layers with one to three indexes each."""
    many = layers or chance.randint(1, 3)
    return Table(name, [random_layer(chance, widths, chance.randint(1, 3)) for _ in range(many)])
