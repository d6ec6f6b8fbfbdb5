"""Tests of fewfetches.engine: 12.1 and 12.5 to 12.8."""

import copy
import unittest

from fewfetches.engine import Engine, Run, run_engine
from fewfetches.kinds import is_right, plain_answer
from fewfetches.knowledge import Known
from fewfetches.questions import Question
from fewfetches.relevant import determined
from fewfetches.rounds import most_pages, next_round
from fewfetches.stores import Store, Table
from tests.helpers import Odd, no_sequences, only_tuples, page_of, raised
from tests.makers import (all_known, laid_line, promised, settling_sets, small_stores)
from tests.onetable import A, ALL, B, ROW, STORE, TABLES, name

BOTH = Question(TABLES, (4, 4), ("and", (ROW, ("row", "t", (B,)))), ("first", 1, (0, 1), ()))


def entry(read, store=STORE):
    return read[:3] + (store.read(*read),)


def state(engine):
    return (engine.question, engine.known.entries, engine.done, engine.answer, engine.waiting, engine.rounds,
            engine.reads)


class Watched:
    """A source that notes what is read."""

    def __init__(self, store):
        self.store = store
        self.noted = []

    def read(self, *read):
        self.noted.append(read)
        return self.store.read(*read)


class TestByHand(unittest.TestCase):
    def test_rounds(self):
        known = Known(STORE.shape)
        engine = Engine(ALL, known)
        grown = engine.known
        self.assertEqual(state(engine), (ALL, (), False, None, (), (), ()))
        self.assertEqual(engine.next_reads(), (name(0, 0), name(1, 0)))
        self.assertEqual(engine.next_reads(), (name(0, 0), name(1, 0)))
        self.assertEqual(engine.waiting, (name(0, 0), name(1, 0)))
        self.assertIsNone(engine.give(entry(name(1, 2))))
        self.assertEqual(state(engine)[2:], (False, None, (name(0, 0),), (), (name(1, 0),)))
        self.assertEqual(engine.next_reads(), (name(0, 0),))
        engine.give(entry(name(0, 0)))
        first = (name(1, 0), name(0, 0))
        self.assertEqual(state(engine)[2:], (False, None, (), (first,), first))
        self.assertEqual(engine.next_reads(), (name(0, 3), name(1, 3)))
        engine.give(entry(name(0, 3)))
        # every row is known by now, but the round goes on
        self.assertEqual(determined(ALL, engine.known), (((1,), (2,)),))
        self.assertEqual(state(engine)[2:], (False, None, (name(1, 3),), (first,), first + (name(0, 2),)))
        self.assertEqual(raised(lambda: engine.told_answer), ("NotDone",))
        engine.give(entry(name(1, 3)))
        second = (name(0, 2), name(1, 1))
        self.assertEqual(state(engine)[2:], (True, ((1,), (2,)), (), (first, second), first + second))
        self.assertEqual(engine.told_answer, ((1,), (2,)))
        self.assertEqual((engine.next_reads(), engine.waiting), ((), ()))
        self.assertIs(engine.known, grown)
        self.assertEqual(engine.known, all_known(STORE))
        self.assertEqual(known.many, 0)

    def test_two_reads_in_one_page(self):
        engine = Engine(BOTH, Known(STORE.shape, [entry(name(1, 0)), entry(name(1, 1))]))
        self.assertEqual((engine.done, engine.answer), (True, ((1, 2),)))
        engine = Engine(BOTH, Known(STORE.shape))
        self.assertEqual(engine.next_reads(), (name(0, 0), name(1, 0), name(0, 3), name(1, 3)))
        engine.give(entry(name(0, 0)))
        self.assertEqual(engine.waiting, (name(1, 0), name(0, 3), name(1, 3)))
        store = Store([Table("t", [laid_line("-pp-", "0123", "0/1/2/3")])])
        engine = Engine(BOTH, Known(store.shape))
        self.assertEqual(len(engine.next_reads()), 4)
        engine.give(entry(name(0, 3), store))
        self.assertEqual(engine.waiting, (name(1, 0), name(1, 3)))
        engine.give(entry(name(1, 3), store))
        engine.give(entry(name(1, 0), store))
        self.assertEqual(engine.rounds, ((name(0, 0), name(1, 3), name(1, 0)),))
        self.assertEqual(engine.told_answer, ((1, 2),))

    def test_older_layers(self):
        store = Store([Table("t", [laid_line("p-g-", "01/23"), laid_line("ppp-", "02/13", "0/1/2/3")])])
        told = run_engine(ALL, store, Known(store.shape))
        new, old = ("t", 0, 0, (0,)), ("t", 0, 0, (2,))
        self.assertEqual(told.rounds, ((new,), (("t", 1, 0, (1,)), ("t", 1, 1, (1,))), (old,)))
        self.assertEqual(told.answer, ((0,), (1,)))

    def test_determined_ahead_of_any_page(self):
        for formula, kind, answer in ((("less", A, ("num", 2)), ("all",), ((0,), (1,))),
                                      (("or", (ROW, ("not", ROW))), ("count",), 4),
                                      (ROW, ("first", 0, (0,), ()), ()), (("or", ()), ("any",), None)):
            question = Question(TABLES, (4,), formula, kind)
            engine = Engine(question, Known(STORE.shape))
            self.assertEqual(state(engine)[2:], (True, answer, (), (), ()))
            self.assertEqual((engine.told_answer, engine.next_reads()), (answer, ()))
            told = run_engine(question, None, Known(STORE.shape))
            self.assertEqual(told, Run((), answer, Known(STORE.shape)))

    def test_all_pages_known(self):
        engine = Engine(ALL, all_known(STORE))
        self.assertEqual((engine.done, engine.answer, engine.next_reads()), (True, ((1,), (2,)), ()))

    def test_no_variables(self):
        for at, answer in ((0, 0), (1, 1)):
            question = Question(TABLES, (), ("row", "t", (("num", at),)), ("count",))
            told = run_engine(question, STORE, Known(STORE.shape))
            self.assertEqual((told.rounds, told.answer), (((name(0, 0), name(1, at)),), answer))

    def test_any(self):
        question = Question(TABLES, (4,), ROW, ("any",))
        told = run_engine(question, STORE, Known(STORE.shape))
        self.assertEqual((told.rounds, told.answer), (((name(0, 0), name(1, 0)),), (1,)))
        told = run_engine(Question(TABLES, (1,), ROW, ("any",)), STORE, Known(STORE.shape))
        self.assertEqual((told.rounds, told.answer), (((name(0, 0), name(1, 0)),), None))

    def test_run(self):
        known = Known(STORE.shape, [entry(name(0, 0))])
        before = copy.deepcopy(known)
        source = Watched(STORE)
        told = run_engine(ALL, source, known)
        self.assertEqual(known, before)
        self.assertEqual(source.noted, [name(0, 2), name(1, 2), name(1, 3)][:len(source.noted)])
        self.assertEqual(told.rounds, ((name(0, 2), name(1, 0)),))
        self.assertEqual(told.answer, ((1,), (2,)))
        self.assertEqual(told.known, Known(STORE.shape, [entry(name(0, 0)), entry(name(0, 2)), entry(name(1, 0))]))


class TestGive(unittest.TestCase):
    def refused(self, engine, given, error):
        before = state(engine)
        self.assertEqual(raised(engine.give, given), (error,))
        self.assertEqual(state(engine), before)

    def test_nothing_is_waited_for(self):
        engine = Engine(ALL, Known(STORE.shape))
        self.refused(engine, entry(name(0, 0)), "Unasked")
        engine = Engine(Question(TABLES, (4,), ("or", ()), ("all",)), Known(STORE.shape))
        engine.next_reads()
        self.refused(engine, entry(name(0, 0)), "Unasked")

    def test_not_asked(self):
        engine = Engine(ALL, Known(STORE.shape))
        engine.next_reads()
        for given in (name(0, 2), name(1, 1)):
            self.refused(engine, entry(given), "Unasked")
        engine.give(entry(name(0, 0)))
        self.refused(engine, entry(name(0, 2)), "Unasked")
        self.refused(engine, entry(name(1, 1)), "Unasked")
        self.assertEqual(engine.waiting, (name(1, 0),))

    def test_other_table_layer_or_index(self):
        """A page that holds the row of a read, but of another index, layer or table."""
        tables = (("s", (2,)), ("t", (2,)))
        store = Store([Table("s", [laid_line("--", "01")]), Table("t", [laid_line("--", "01"), laid_line("pp", "01")])])
        engine = Engine(Question(tables, (2,), ("row", "t", (A,)), ("all",)), Known(store.shape))
        self.assertEqual(engine.next_reads(), (("t", 0, 0, (0,)),))
        self.refused(engine, entry(("s", 0, 0, (0,)), store), "Unasked")
        self.refused(engine, entry(("t", 1, 0, (0,)), store), "Unasked")
        engine.give(entry(("t", 0, 0, (0,)), store))
        self.assertEqual(engine.next_reads(), (("t", 1, 0, (0,)),))
        wide = Store([Table("t", [laid_line("--", "01", "0/1")])])
        question = Question((("t", (2,)),), (2,), ("row", "t", (A,)), ("all",))
        engine = Engine(question, Known(wide.shape))
        engine.next_reads()
        engine.give(entry(("t", 0, 1, (0,)), wide))
        self.refused(engine, entry(("t", 0, 1, (1,)), wide), "Unasked")

    def test_again_and_foreign_come_first(self):
        engine = Engine(ALL, Known(STORE.shape, [entry(name(0, 2))]))
        self.refused(engine, entry(name(0, 2)), "Again")
        engine.next_reads()
        engine.give(entry(name(0, 0)))
        self.refused(engine, entry(name(0, 2)), "Again")
        self.refused(engine, entry(name(0, 0)), "Again")
        whole = page_of([(0,), (1,), (2,), (3,)])
        one = page_of([(0,)], [((0,), "put")])
        for given in (("s", 0, 0, whole), ("t", 1, 0, whole), ("t", 0, 2, whole), ("t", 0, 0, page_of([(3,)])),
                      ("t", 0, 1, one), ("t", 0, 1, page_of([(4,)])), ("t", 0, False, one), list(entry(name(1, 0))),
                      ("t", 0, 1), Odd()):
            self.refused(engine, given, "Foreign")
        for thing in no_sequences():
            self.refused(engine, thing, "Foreign")

    def test_attributes_are_tuples(self):
        engine = Engine(ALL, Known(STORE.shape))
        while not engine.done:
            self.assertTrue(only_tuples((engine.next_reads(), engine.waiting, engine.rounds, engine.reads)))
            engine.give(entry(engine.waiting[-1]))
        self.assertTrue(only_tuples((engine.answer, engine.rounds, engine.reads)))

    def test_the_known_handed_in_goes_its_own_way(self):
        known = Known(STORE.shape)
        engine = Engine(ALL, known)
        known.add(entry(name(0, 0)))
        self.assertEqual(engine.known.many, 0)
        self.assertEqual(engine.next_reads(), (name(0, 0), name(1, 0)))
        engine.give(entry(name(0, 0)))
        engine.give(entry(name(1, 0)))
        self.assertEqual(known.many, 1)


class TestRun(unittest.TestCase):
    def test_equal(self):
        known = Known(STORE.shape)
        told = Run(((name(0, 0),),), (), known)
        self.assertEqual((told.rounds, told.answer, told.known), (((name(0, 0),),), (), known))
        self.assertIs(told.known, known)
        self.assertTrue(told == Run(((name(0, 0),),), (), Known(STORE.shape)))
        for other in (Run((), (), known), Run(((name(0, 0),),), None, known), Run(((name(0, 0),),), (), all_known(STORE)),
                      (((name(0, 0),),), (), known), None):
            self.assertFalse(told == other)


def plain_rounds(question, store, known):
    """The rounds by the words of [12.5] and [12.6]."""
    known = known.twin()
    rounds = []
    while determined(question, known) is None:
        names = []
        for read in next_round(question, known):
            place = store.place_of(*read)
            if place not in names:
                names.append(place)
        for place in names:
            known.add(entry(place, store))
        rounds.append(tuple(names))
    return tuple(rounds)


def given_in_any_order(chance, engine, store, stop=None):
    """Gives the engine the pages of its reads, in any order; stops behind so many pages."""
    given = 0
    while not engine.done and given != stop:
        engine.give(entry(chance.choice(engine.next_reads()), store))
        given += 1
    return given


class TestRandom(unittest.TestCase):
    def test_runs(self):
        for _, question, store, known in small_stores(141, 150):
            source = Watched(store)
            told = run_engine(question, source, known)
            self.assertEqual(told.rounds, plain_rounds(question, store, known))
            self.assertTrue(is_right(question, store, told.answer))
            self.assertEqual((told.answer,), determined(question, told.known))
            if question.kind[0] != "any":
                self.assertEqual(told.answer, plain_answer(question, store))
            names = [place for names in told.rounds for place in names]
            self.assertEqual([store.place_of(*read) for read in source.noted], names)
            self.assertEqual(len(names), len(set(names)))
            self.assertFalse(set(names) & set(known.names))
            self.assertEqual(set(told.known.names), set(names) | set(known.names))
            self.assertTrue(all(1 <= len(names) <= most_pages(question, store.shape) for names in told.rounds))
            self.assertTrue(all(store.holds(one) for one in told.known.entries))

    def test_factor(self):
        """[12.1], for sets of pages that determine the answer and from which no page can be left out."""
        tight = 0
        for chance, question, store, known in small_stores(142, 150, ("all", "first", "count", "sum"), (0, 0.2)):
            if promised(question):
                told = run_engine(question, store, known)
                for names in settling_sets(chance, question, store, known):
                    self.assertTrue(all(set(names) & set(pages) for pages in told.rounds))
                    self.assertLessEqual(len(told.rounds), len(names))
                    many = sum(len(pages) for pages in told.rounds)
                    self.assertLessEqual(many, most_pages(question, store.shape) * len(names))
                    tight += len(told.rounds) == len(names) and len(names) > 1
        self.assertGreater(tight, 10)

    def test_any_order_within_rounds(self):
        for chance, question, store, known in small_stores(143, 100):
            told = run_engine(question, store, known)
            for _ in range(2):
                engine = Engine(question, known)
                given_in_any_order(chance, engine, store)
                self.assertEqual([sorted(pages) for pages in engine.rounds], [sorted(pages) for pages in told.rounds])
                self.assertEqual(engine.told_answer, told.answer)
                self.assertEqual(engine.known, told.known)
                self.assertEqual(engine.reads, tuple(place for pages in engine.rounds for place in pages))

    def test_cuts_between_rounds(self):
        for _, question, store, known in small_stores(144, 80):
            told = run_engine(question, store, known)
            engine = Engine(question, known)
            for at in range(len(told.rounds)):
                rest = run_engine(question, store, engine.known)
                self.assertEqual(rest.rounds, told.rounds[at:])
                self.assertEqual(rest.answer, told.answer)
                for place in told.rounds[at]:
                    engine.next_reads()
                    engine.give(entry(place, store))

    def test_cuts_amid_rounds(self):
        """[12.7]: a cut counts if a page of the round was given and another one is still waited for."""
        cuts_in_all = 0
        for chance, question, store, known in small_stores(145, 100, ("all", "first", "count", "sum"), (0, 0.2)):
            if promised(question):
                most = most_pages(question, store.shape)
                sets = list(settling_sets(chance, question, store, known))
                pages, cuts, answer = self.cut_many(chance, question, store, known)
                self.assertTrue(is_right(question, store, answer))
                for names in sets:
                    self.assertLessEqual(pages, most * len(names) + cuts * (most - 1))
                cuts_in_all += cuts
        self.assertGreater(cuts_in_all, 10)

    def cut_many(self, chance, question, store, known):
        """(pages read, cuts amid rounds, answer) of a run that is cut again and again."""
        pages = cuts = 0
        now = known
        while True:
            engine = Engine(question, now)
            if engine.done:
                return pages, cuts, engine.told_answer
            pages += given_in_any_order(chance, engine, store, chance.randint(1, 5))
            cuts += len(engine.waiting) > 0
            now = engine.known

    def test_what_is_read_hangs_on_question_and_known_pages_alone(self):
        """Two stores that hold the same pages are read alike up to the first page that they do not have in common."""
        for chance, question, store, known in small_stores(146, 60):
            changes = [(name_, known.first_unknown(name_, row), row, "put")
                       for name_, widths, _ in store.shape for row in [chance.choice(rows_in(store, name_))]
                       if known.first_unknown(name_, row) is not None]
            other = store.with_marks(changes)
            one_run, other_run = run_engine(question, store, known), run_engine(question, other, known)
            for one, two in zip(one_run.rounds, other_run.rounds):
                self.assertEqual(one, two)
                if not all(other.holds(entry(place, store)) for place in one):
                    break


def rows_in(store, table):
    return [row for page in store.table_of(table).layers[0].indexes[0] for row in page.rows]


if __name__ == "__main__":
    unittest.main()
