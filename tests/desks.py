"""A small desk and questions for the tests of desks and stories."""

from fewfetches.boxes import Box
from fewfetches.desk import Desk
from fewfetches.questions import Question
from fewfetches.stores import Store, Table
from tests.helpers import all_kinds, rows_of, seeded
from tests.makers import laid_line, random_formula, random_kind, random_store

A, B = ("var", 0), ("var", 1)
R, S = ("row", "r", (A,)), ("row", "s", (A,))
TABLES = (("r", (4,)), ("s", (4,)))
LINE = ("stretch", (0,))
KINDS = [[[LINE, ("lots", 2)]], [[LINE]]]
HALVES = ("given", ((Box((0,), (2,)),), (Box((2,), (4,)),)))
# r has rows 1 and 2, s has 0 and 3
STORE = Store([Table("r", [laid_line("-pp-", "01/23", "02/13")]), Table("s", [laid_line("p--p", "0/12/3")])])


def new_desk():
    return Desk(STORE, KINDS, 2)


def made(formula, kind=("all",), widths=(4,), tables=TABLES):
    return Question(tables, widths, formula, kind)


def r(index, row, layer=0):
    return "r", layer, index, (row,)


def s(row, layer=0):
    return "s", layer, 0, (row,)


ALL_R, ALL_S = made(R), made(S)
BOTH = made(("and", (R, S)))
UNLIKE = made(("and", (("or", (R, S)), ("not", ("and", (R, S))))))
# questions that do not fit the desk: a table that it has not, and one of other widths
NO_Q = made(("or", ()), tables=(("q", (4,)), ("r", (5,))))
WIDE_R = made(("or", ()), tables=(("r", (5,)), ("s", (5,))))
WIDE_S = made(("or", ()), tables=(("r", (4,)), ("s", (2, 2))))


def done(*deeds):
    """A desk that has done these deeds."""
    desk = new_desk()
    for deed in deeds:
        desk.do_deed(deed)
    return desk


def reads(*page_names):
    """The deeds that read these pages."""
    return [("read",) + page_name for page_name in page_names]


def state(desk):
    return desk.versions, desk.number, desk.known.twin(), desk.halted, desk.log


def story_store(chance):
    """A store of two tables with the kinds of its indexes."""
    question = made(R, tables=(("r", (4,)), ("s", (2, 2))))
    store = random_store(chance, question, chance.choice([1, 2]))
    kinds = [[[chance.choice(all_kinds(table.widths)) for _ in layer.indexes] for layer in table.layers]
             for table in store.tables]
    return store, kinds


def story_question(chance):
    tables = (("r", (4,)), ("s", (2, 2)))
    widths = tuple(chance.choice([2, 2, 4]) for _ in range(chance.choice([0, 1, 2])))
    return made(random_formula(chance, tables, widths), random_kind(chance, len(widths)), widths, tables)


def story_deed(chance, desk):
    """Some deed; some of these are refused."""
    version = desk.versions[desk.number]
    name, widths, counts = chance.choice(version.store.shape)
    layer = chance.randrange(len(counts))
    index = chance.randrange(counts[layer])
    row = chance.choice(rows_of(widths))
    kinds = [chance.choice(all_kinds(widths)) for _ in range(chance.choice([1, 2]))]
    known = [place[:3] + (chance.choice(desk.known.page(place).rows),) for place in desk.known.names]
    question = story_question(chance)
    policy = chance.choice([("none",), ("gap",), ("cheap",), ("rounds",), ("choices", (3, -2, 5, 0))])
    dead = [place[:3] for place in chance.sample(version.store.page_names, 2)]
    return chance.choice([
        ("put", name, row), ("remove", name, row), ("put", name, row), ("flush", name, kinds), ("compact", name, layer),
        ("relay", name, layer, index, kinds[0]), ("at", chance.randrange(len(desk.versions) + 1)),
        ("at", len(desk.versions) - 1), ("at", len(desk.versions) - 1),
        ("read", name, layer, index, row), ("forget", chance.sample(known, min(len(known), 4))),
        ("ask", question), ("ask", question), ("cut", question, chance.randrange(4)), ("resume",), ("by", policy, question),
        ("share", [question, story_question(chance)]), ("partial", question, dead), ("paper", question)])


def stories(seed, many, length=12):
    """Desks over unlike stores, each with the chance by which it goes on and the number of its deeds."""
    chance = seeded(seed)
    for _ in range(many):
        store, kinds = story_store(chance)
        yield chance, Desk(store, kinds, chance.choice([1, 2, 4])), length
