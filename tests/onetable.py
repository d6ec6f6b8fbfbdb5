"""A store of one table with two indexes, and questions about it."""

from fewfetches.knowledge import Known
from fewfetches.questions import Question
from fewfetches.stores import Store, Table
from tests.makers import laid_line

A, B = ("var", 0), ("var", 1)
ROW = ("row", "t", (A,))
TABLES = (("t", (4,)),)
# rows 1 and 2 are in
STORE = Store([Table("t", [laid_line("-pp-", "01/23", "02/13")])])
NOTHING = Known(STORE.shape)
ALL = Question(TABLES, (4,), ROW, ("all",))
ANY = Question(TABLES, (4,), ROW, ("any",))
COUNT_BOTH = Question(TABLES, (4,), ("or", (ROW, ("not", ROW))), ("count",))


def name(index, row):
    return "t", 0, index, (row,)
