"""Tests of fewfetches.foes: 14.1 and 14.5 to 14.9."""

import unittest

from fewfetches.engine import run_engine
from fewfetches.foes import Foe
from fewfetches.kinds import plain_answer
from fewfetches.knowledge import Known
from fewfetches.layers import Layer
from fewfetches.questions import Question
from fewfetches.relevant import determined
from fewfetches.rounds import most_pages
from fewfetches.stores import Store, Table
from tests.helpers import no_integers, no_sequences, page_of, raised, rows_of, seeded
from tests.makers import all_points_of, laid_line, name_of, plain_rows, with_names

A, B, C = ("var", 0), ("var", 1), ("var", 2)
TABLES = (("r", (9,)), ("s", (8, 9)), ("u", (3,)))
R, S = ("row", "r", (A,)), ("row", "s", (B, A))
U = ("row", "u", (("num", 1),))
KINDS = (("all",), ("first", 1, (0, 0), ()), ("first", 4, (1, 0), (1,)), ("count",), ("sum", (0, 2)), ("any",))


def made(formula=("and", (R, ("not", S))), widths=(9, 7), kind=("all",), tables=TABLES):
    return Question(tables, widths, formula, kind)


class PlainFoe:
    """The foe by the words of [14.6] and [14.7]: blocks, marks and which index becomes the last."""

    def __init__(self, question, indexes, blocks):
        nodes = question.formula[1] if question.formula[0] == "and" else (question.formula,)
        self.nodes = {(node[1] if node[0] == "not" else node)[1]: node for node in nodes}
        self.counts = {name: many for (name, _), many in zip(question.tables, indexes)}
        self.widths = dict(question.tables)
        self.factor = sum(self.counts[name] for name in self.nodes)
        self.blocks = blocks
        self.common = None
        if blocks > 1:
            self.common = min(variable for variable in range(len(question.widths))
                              if question.widths[variable] >= self.factor * blocks
                              and all(("var", variable) in self.terms(name) for name in self.nodes))
        self.pages = {}
        self.lasts = {}
        self.reads = []

    def terms(self, name):
        node = self.nodes[name]
        return (node[1] if node[0] == "not" else node)[2]

    def block(self, name, row):
        if self.common is None:
            return 0
        value = [value for term, value in zip(self.terms(name), row) if term == ("var", self.common)][0]
        return min(value // self.factor, self.blocks - 1)

    def lot(self, name, block):
        return [row for row in rows_of(self.widths[name]) if self.block(name, row) == block]

    def page(self, name, lot):
        denied = name in self.nodes and self.nodes[name][0] == "not"
        return page_of(lot, [(row, "put") for row in lot] if denied else [])

    def begun(self, block):
        return {key[:2] for key, page in self.pages.items()
                if key[0] in self.nodes and self.block(key[0], page.first) == block}

    def indexes(self):
        return [(name, index) for name in sorted(self.nodes) for index in range(self.counts[name])]

    def read(self, name, index, row):
        for key, page in self.pages.items():
            if key[:2] == (name, index) and row in page.rows:
                return page
        lot = [row]
        if name in self.nodes:
            block = self.block(name, row)
            others = [other for other in self.indexes() if other != (name, index)]
            begun = self.begun(block)
            if block not in self.lasts and (name, index) not in begun and set(others) <= begun:
                self.lasts[block] = (name, index)
                lot = self.lot(name, block)
        page = self.page(name, lot)
        self.pages[(name, index, page.first)] = page
        return page

    def lasts_now(self):
        return {block: self.lasts.get(block) or [one for one in self.indexes() if one not in self.begun(block)][0]
                for block in range(self.blocks)}

    def now_entries(self):
        """The entries of now_store, by the words of [14.8]."""
        lasts = self.lasts_now()
        entries = []
        for name, widths in sorted(self.widths.items()):
            for index in range(self.counts[name]):
                rows = rows_of(widths)
                while rows:
                    block = self.block(name, rows[0]) if name in self.nodes else None
                    lot = self.lot(name, block) if block is not None and lasts[block] == (name, index) else rows[:1]
                    entries.append((name, 0, index, self.page(name, lot)))
                    rows = [row for row in rows if row not in lot]
        return sorted(entries, key=name_of)


class TestBadFoe(unittest.TestCase):
    def check(self, what, *given, **named):
        self.assertEqual(raised(Foe, *given, **named), what and ("BadFoe", what))

    def test_indexes(self):
        for thing in no_sequences() + [(), (1,), (1, 1), (1, 1, 1, 1), (0, 1, 1), (1, 4, 1), (1, 1, -1), [1, 1, 64]]:
            self.check("indexes", made(), thing)
        for thing in no_integers():
            for at in range(3):
                self.check("indexes", made(), [1] * at + [thing] + [1] * (2 - at))
        self.check(None, made(), [1, 3, 3])
        self.check(None, made(), (3, 1, 1))

    def test_kind(self):
        self.check("kind", made(kind=("first", 0, (0, 0), ())), (1, 1, 1))
        for kind in KINDS:
            self.check(None, made(kind=kind), (1, 1, 1))

    def test_formula(self):
        for formula in (("and", ()), ("or", (R,)), ("or", ()), ("not", ("not", R)), ("same", A, B), ("less", A, B),
                        ("not", ("same", A, B)), ("and", (R, ("same", A, B))), ("and", (R, ("and", (S,)))),
                        ("and", (("not", ("and", (R,))), S)), ("not", ("and", (R,))), ("and", (R, ("not", ("not", S)))),
                        ("and", (R, ("or", (S,)))), ("not", ("or", (R,)))):
            self.check("formula", made(formula), (1, 1, 1))
        for formula in (R, ("not", R), ("and", (R,)), ("and", (("not", R),)), ("and", (R, S)), ("and", (S, ("not", R)))):
            self.check(None, made(formula), (1, 1, 1))

    def test_twice(self):
        other = ("row", "r", (B,))
        for parts in ((R, R), (R, other), (R, ("not", R)), (R, S, other), (("not", S), R, S)):
            self.check("twice", made(("and", parts)), (1, 1, 1))

    def test_variable(self):
        for formula in (U, ("not", U), ("and", (R, U)), ("and", (U, R)), ("row", "s", (("num", 2), ("num", 3)))):
            self.check("variable", made(formula), (1, 1, 1))
        self.check(None, made(("row", "s", (("num", 2), A))), (1, 1, 1))

    def test_width(self):
        """"r" and "s" are asked: M is the sum of their numbers; a has 9 values, b 7."""
        for indexes, what in (((3, 3, 3), None), ((2, 2, 3), None), ((3, 1, 1), None)):
            self.check(what, made(), indexes)
            self.check("width", made(widths=(sum(indexes[:2]) - 1, 7)), indexes)
            self.check(None, made(widths=(sum(indexes[:2]), 7)), indexes)
            self.check("width", made(widths=(9, sum(indexes[:2]) - 1)), indexes)
            self.check(None, made(widths=(9, sum(indexes[:2]))), indexes)
        self.check(None, made(R, (3, 1)), (3, 3, 3))
        self.check("width", made(R, (2, 7)), (3, 1, 1))
        self.check("width", made(S, (9, 2)), (1, 3, 1))

    def test_blocks(self):
        for thing in no_integers():
            if thing != 1 or isinstance(thing, bool):
                self.check("blocks", made(), (1, 1, 1), blocks=thing)
        for many in (0, -1, 65, 1000):
            self.check("blocks", made(), (1, 1, 1), blocks=many)
        for many, what in ((1, None), (2, None), (4, None), (5, "blocks"), (64, "blocks")):
            self.check(what, made(), (1, 1, 1), blocks=many)
        # b does not stand in the node of "r"
        wide = (("r", (6,)), ("s", (64, 6)))
        self.check(None, made(("and", (R, S)), (6, 64), tables=wide), (1, 1), blocks=3)
        self.check("blocks", made(("and", (R, S)), (6, 64), tables=wide), (1, 1), blocks=4)
        self.check(None, made(S, (6, 64), tables=wide), (1, 1), blocks=64)
        self.check("blocks", made(S, (6, 63), tables=wide), (1, 1), blocks=64)

    def test_no_common_variable(self):
        """Then there can be only one block."""
        formula = ("and", (R, ("row", "s", (B, B))))
        self.check(None, made(formula), (1, 1, 1))
        self.check("blocks", made(formula), (1, 1, 1), blocks=2)
        self.check(None, made(("and", (R, ("row", "s", (B, B)))), (2, 7)), (1, 1, 1), blocks=1)

    def test_order(self):
        bad = ("and", (U, U, ("same", A, B)))
        none = ("first", 0, (0, 0), ())
        self.check("indexes", made(bad, kind=none), (1, 1), blocks=0)
        self.check("kind", made(bad, kind=none), (1, 1, 1), blocks=0)
        self.check("formula", made(bad), (3, 3, 3), blocks=0)
        self.check("twice", made(("and", (U, R, U)), (4, 7)), (3, 3, 3), blocks=0)
        self.check("variable", made(("and", (R, U)), (4, 7)), (3, 3, 3), blocks=0)
        self.check("width", made(("and", (R, S)), (4, 7)), (3, 3, 3), blocks=0)
        self.check("blocks", made(("and", (R, S))), (3, 3, 3), blocks=0)

    def test_blocks_is_a_keyword(self):
        with self.assertRaises(TypeError):
            Foe(made(), (1, 1, 1), 2)


class TestByHand(unittest.TestCase):
    def test_attributes(self):
        question = made()
        foe = Foe(question, [2, 1, 3])
        self.assertEqual((foe.question, foe.indexes, foe.blocks, foe.factor), (question, (2, 1, 3), 1, 3))
        self.assertEqual(foe.shape, (("r", (9,), (2,)), ("s", (8, 9), (1,)), ("u", (3,), (3,))))
        self.assertEqual(foe.reads, ())

    def test_one_table(self):
        """One index: the first page is the last and holds all rows."""
        foe = Foe(made(R), (1, 1, 1))
        self.assertEqual(foe.read("r", 0, 0, (4,)), page_of(rows_of((9,))))
        self.assertEqual(foe.reads, (("r", 0, 0, (0,)),))
        self.assertEqual(foe.enough_names(), (("r", 0, 0, (0,)),))

    def test_last_index(self):
        foe = Foe(made(), (2, 1, 1))
        self.assertEqual(foe.enough_names(), (("r", 0, 0, (0,)),))
        self.assertEqual(foe.read("r", 0, 0, (3,)), page_of([(3,)]))
        self.assertEqual(foe.enough_names(), (("r", 0, 1, (0,)),))
        self.assertEqual(foe.read("r", 0, 0, (5,)), page_of([(5,)]))
        self.assertEqual(foe.read("u", 0, 0, (1,)), page_of([(1,)]))
        self.assertEqual(foe.read("s", 0, 0, (2, 3)), page_of([(2, 3)], [((2, 3), "put")]))
        self.assertEqual(foe.read("s", 0, 0, (2, 3)), page_of([(2, 3)], [((2, 3), "put")]))
        self.assertEqual(foe.read("r", 0, 1, (7,)), page_of(rows_of((9,))))
        self.assertEqual(foe.read("r", 0, 1, (2,)), page_of(rows_of((9,))))
        self.assertEqual(foe.read("r", 0, 0, (8,)), page_of([(8,)]))
        self.assertEqual(foe.read("u", 0, 0, (2,)), page_of([(2,)]))
        self.assertEqual(foe.reads, (("r", 0, 0, (3,)), ("r", 0, 0, (5,)), ("u", 0, 0, (1,)), ("s", 0, 0, (2, 3)),
                                     ("r", 0, 1, (0,)), ("r", 0, 0, (8,)), ("u", 0, 0, (2,))))
        self.assertEqual(foe.enough_names(), (("r", 0, 1, (0,)),))

    def test_a_denied_table_is_last(self):
        foe = Foe(made(), (1, 1, 1))
        foe.read("r", 0, 0, (0,))
        rows = rows_of((8, 9))
        self.assertEqual(foe.read("s", 0, 0, (3, 3)), page_of(rows, [(row, "put") for row in rows]))
        self.assertEqual(foe.reads, (("r", 0, 0, (0,)), ("s", 0, 0, (0, 0))))

    def test_blocks(self):
        """a has 9 values, M is 2: blocks 0, 1 | 2, 3 | 4 and more; in "s" a is the second column."""
        foe = Foe(made(), (1, 1, 1), blocks=3)
        self.assertEqual(foe.enough_names(), (("r", 0, 0, (0,)), ("r", 0, 0, (2,)), ("r", 0, 0, (4,))))
        self.assertEqual(foe.read("r", 0, 0, (8,)), page_of([(8,)]))
        self.assertEqual(foe.enough_names(), (("r", 0, 0, (0,)), ("r", 0, 0, (2,)), ("s", 0, 0, (0, 4))))
        self.assertEqual(foe.read("s", 0, 0, (7, 1)), page_of([(7, 1)], [((7, 1), "put")]))
        rows = [row for row in rows_of((8, 9)) if row[1] >= 4]
        self.assertEqual(foe.read("s", 0, 0, (7, 6)), page_of(rows, [(row, "put") for row in rows]))
        self.assertEqual(foe.read("r", 0, 0, (3,)), page_of([(3,)]))
        self.assertEqual(foe.read("r", 0, 0, (0,)), page_of([(0,), (1,)]))
        self.assertEqual(foe.reads, (("r", 0, 0, (8,)), ("s", 0, 0, (7, 1)), ("s", 0, 0, (0, 4)), ("r", 0, 0, (3,)),
                                     ("r", 0, 0, (0,))))
        self.assertEqual(foe.enough_names(), (("r", 0, 0, (0,)), ("s", 0, 0, (0, 2)), ("s", 0, 0, (0, 4))))

    def test_common_variable(self):
        """The least one that stands in every node and is wide enough; a row's first column with it counts."""
        tables = (("r", (9, 9)), ("s", (9, 9, 9)))
        formula = ("and", (("row", "r", (B, A)), ("row", "s", (A, B, B))))
        foe = Foe(Question(tables, (3, 9), formula, ("all",)), (1, 1), blocks=2)
        self.assertEqual(foe.read("r", 0, 0, (1, 8)), page_of([(1, 8)]))
        self.assertEqual(foe.read("s", 0, 0, (0, 0, 5)), page_of([row for row in rows_of((9, 9, 9)) if row[1] < 2]))
        foe = Foe(Question(tables, (9, 9), formula, ("all",)), (1, 1), blocks=2)
        self.assertEqual(foe.read("r", 0, 0, (8, 1)), page_of([(8, 1)]))
        self.assertEqual(foe.read("s", 0, 0, (1, 8, 8)), page_of([row for row in rows_of((9, 9, 9)) if row[0] < 2]))

    def test_errors(self):
        foe = Foe(made(), (2, 1, 1))
        store = Store([Table("r", [laid_line("-" * 9, "012345678", "012345678")])])
        for name, layer, index, row, error in (
                ("q", 7, 7, 7, ("NoTable", "q")), (None, 0, 0, (0,), ("NoTable", None)),
                ("r", 1, 7, 7, ("NoLayer", 1)), ("r", -1, 0, (0,), ("NoLayer", -1)), ("r", False, 0, (0,), ("NoLayer", False)),
                ("r", None, 0, (0,), ("NoLayer", None)), ("r", 0, 2, 7, ("NoIndex", 2)), ("r", 0, -1, (0,), ("NoIndex", -1)),
                ("r", 0, True, (0,), ("NoIndex", True)), ("r", 0, "0", (0,), ("NoIndex", "0")),
                ("r", 0, 0, (9,), ("BadRow", (9,))), ("r", 0, 0, (0, 0), ("BadRow", (0, 0))), ("r", 0, 1, 3, ("BadRow", 3)),
                ("r", 0, 1, (True,), ("BadRow", (True,))), ("r", 0, 1, [-1], ("BadRow", [-1]))):
            self.assertEqual(raised(foe.read, name, layer, index, row), error)
            self.assertEqual(raised(store.read, name, layer, index, row), error)
        self.assertEqual(raised(foe.read, "s", 0, 1, (0, 0)), ("NoIndex", 1))
        self.assertEqual((foe.reads, foe.enough_names()), ((), (("r", 0, 0, (0,)),)))
        self.assertEqual(foe.read("r", 0, 0, [4]), page_of([(4,)]))
        self.assertIs(foe.read("r", 0, 0, (4,)), foe.read("r", 0, 0, [4]))


def random_foe(chance, kinds=KINDS):
    """A foe with its plain one, blocks among them."""
    formulas = [R, ("not", R), ("and", (R, S)), ("and", (S, ("not", R))), ("and", (("not", S), ("not", R))), S,
                ("row", "s", (A, A)), ("and", (("row", "s", (("num", 3), A)), ("not", ("row", "r", (A,)))))]
    tables = (("r", (9,)), ("s", (8, 9)), ("u", (3,)))
    widths = (chance.choice([6, 8]), chance.choice([6, 7]))
    question = Question(tables, widths, chance.choice(formulas), chance.choice(kinds))
    indexes = [chance.randint(1, 2), chance.randint(1, 2), chance.randint(1, 3)]
    for blocks in (chance.choice([1, 2, 3]), 1):
        try:
            return Foe(question, indexes, blocks=blocks), PlainFoe(question, indexes, blocks)
        except ValueError:
            pass
    return random_foe(chance, kinds)


class TestRandom(unittest.TestCase):
    def read_some(self, chance, foe, plain, many):
        for _ in range(many):
            name, widths, counts = chance.choice(foe.shape)
            index = chance.randrange(counts[0])
            row = chance.choice(rows_of(widths))
            page = foe.read(name, 0, index, row)
            self.assertEqual(page, plain.read(name, index, row))
            if (name, 0, index, page.first) not in plain.reads:
                plain.reads.append((name, 0, index, page.first))
            self.assertEqual(foe.reads, tuple(plain.reads))

    def test_against_the_words(self):
        chance = seeded(171)
        lasts = 0
        for _ in range(60):
            foe, plain = random_foe(chance)
            for many in (0, 3, 10):
                self.read_some(chance, foe, plain, many)
                now = foe.now_store()
                entries = plain.now_entries()
                self.assertEqual(now, Store([Table(name, [layer_of(entries, name, widths)])
                                             for name, widths, _ in foe.shape]))
                self.assertEqual(now.shape, foe.shape)
                self.assertTrue(all(now.holds(page_name[:3] + (foe.read(*page_name),)) for page_name in foe.reads))
                names = sorted((name, 0, index, plain.lot(name, block)[0])
                               for block, (name, index) in plain.lasts_now().items())
                self.assertEqual(foe.enough_names(), tuple(names))
                self.assertEqual((foe.reads, foe.now_store()), (tuple(plain.reads), now))
            lasts += len(plain.lasts)
        self.assertGreater(lasts, 30)

    def test_no_point_holds_and_few_pages_are_enough(self):
        chance = seeded(172)
        for _ in range(25):
            foe, plain = random_foe(chance)
            self.read_some(chance, foe, plain, chance.randrange(8))
            now = foe.now_store()
            question = foe.question
            none = {"all": (), "first": (), "count": 0, "sum": 0, "any": None}[question.kind[0]]
            self.assertEqual(plain_answer(question, now), none)
            enough = foe.enough_names()
            self.assertEqual(len(enough), foe.blocks)
            known = with_names(now, Known(now.shape), enough)
            self.assertEqual(determined(question, known), (none,))
            for page_name in enough:
                self.assertIsNone(determined(question, known.without([page_name])))

    def test_lower_side(self):
        """As long as in some block fewer than M pages of asked tables were returned, the answer is open."""
        chance = seeded(173)
        seen = {True: 0, False: 0}
        for _ in range(40):
            foe, plain = random_foe(chance)
            known = Known(foe.shape)
            for _ in range(30):
                few = [block for block in range(foe.blocks)
                       if len([key for key in plain.pages if key[0] in plain.nodes
                               and plain.block(key[0], key[2]) == block]) < foe.factor]
                told = determined(foe.question, known)
                if few:
                    self.assertIsNone(told)
                seen[told is None] += 1
                point = chance.choice(all_points_of(foe.question))
                name, row = chance.choice(sorted(plain_rows(foe.question.formula, point)))
                index = chance.randrange(plain.counts[name])
                page = foe.read(name, 0, index, row)
                self.assertEqual(page, plain.read(name, index, row))
                if not known.has(name, 0, index, row):
                    known.add((name, 0, index, page))
        self.assertGreater(min(seen.values()), 30)

    def test_the_engine_reads_as_many_as_it_may(self):
        chance = seeded(174)
        for _ in range(40):
            foe, plain = random_foe(chance)
            told = run_engine(foe.question, foe, Known(foe.shape))
            self.assertEqual(foe.factor, most_pages(foe.question, foe.shape))
            self.assertEqual(len(foe.reads), foe.factor * foe.blocks)
            for page_name in foe.reads:
                plain.read(page_name[0], page_name[2], page_name[3])
            for block in range(foe.blocks):
                here = [page_name for page_name in foe.reads if plain.block(page_name[0], page_name[3]) == block]
                self.assertEqual(len(here), foe.factor)
            self.assertEqual(sorted(foe.reads), sorted(told.known.names))
            now = foe.now_store()
            self.assertTrue(all(now.holds(entry) for entry in told.known.entries))
            self.assertEqual(determined(foe.question, with_names(now, Known(now.shape), foe.enough_names())),
                             (told.answer,))


def layer_of(entries, name, widths):
    indexes = {}
    for entry in entries:
        if entry[0] == name:
            indexes.setdefault(entry[2], []).append(entry[3])
    return Layer(widths, [indexes[index] for index in sorted(indexes)])


if __name__ == "__main__":
    unittest.main()
