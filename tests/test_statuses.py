"""Tests of fewfetches.statuses: 15.1 and 15.7 to 15.12."""

import itertools
import unittest

from fewfetches.deciding import decided
from fewfetches.formulas import point_worth
from fewfetches.kinds import weight_of
from fewfetches.knowledge import Known
from fewfetches.questions import Question
from fewfetches.rounds import most_pages, round_at
from fewfetches.statuses import (Partial, check_dead, doubt_stores, read_partial, spread_of, status_of, status_round)
from fewfetches.stores import Store, Table
from tests.desks import A, R, S, STORE, TABLES, made, r, s
from tests.helpers import no_integers, no_names, no_sequences, only_tuples, raised, seeded, unchanged
from tests.makers import (all_known, all_points_of, filled_store, laid_line, name_of, plain_fillings, plain_holds,
                          plain_rows, random_question, random_store, small_stores, some_known, with_names)

NOTHING = Known(STORE.shape)
UNLIKE = ("and", (("or", (R, S)), ("not", ("and", (R, S)))))
S_DEAD = (("s", 0, 0),)
R_DEAD = (("r", 0, 0), ("r", 0, 1))


class TestCheckDead(unittest.TestCase):
    def test_right(self):
        shape = (("r", (4,), (2, 3)), ("s", (4,), (1,)))
        self.assertEqual(check_dead(shape, ()), ())
        dead = [["s", 0, 0], ("r", 1, 2), ("r", 0, 1), ["r", 1, 2], ("s", 0, 0)]
        told = unchanged(self, check_dead, shape, dead)
        self.assertEqual(told, (("r", 0, 1), ("r", 1, 2), ("s", 0, 0)))
        self.assertTrue(only_tuples(told))
        self.assertEqual(check_dead(shape, tuple(dead)), told)

    def test_wrong(self):
        shape = (("r", (4,), (2, 3)), ("s", (4,), (1,)))
        for thing in no_sequences():
            self.assertEqual(raised(check_dead, shape, thing), ("BadDead", 0))
        wrong = no_sequences() + [(), ("r",), ("r", 0), ("r", 0, 0, 0), ("t", 0, 0), ("r", 2, 0), ("r", -1, 0),
                                  ("r", 0, 2), ("r", 1, 3), ("r", 0, -1), ("s", 0, 1), ("s", 1, 0), "r00"]
        wrong += [("r", thing, 0) for thing in no_integers()] + [("r", 0, thing) for thing in no_integers()]
        wrong += [(thing, 0, 0) for thing in no_names()]
        for item in wrong:
            for at in range(3):
                dead = [("r", 0, 0)] * at + [item, ("s", 0, 0), None]
                self.assertEqual(raised(check_dead, shape, dead), ("BadDead", at), item)


class TestByHand(unittest.TestCase):
    def test_no_dead_index(self):
        self.assertIsNone(status_of(made(R), NOTHING, (), (0,)))
        self.assertEqual(status_round(made(R), NOTHING, (), (0,)), (r(0, 0), r(1, 0)))
        half = with_names(STORE, NOTHING, [r(0, 0)])
        self.assertEqual([status_of(made(R), half, (), (at,)) for at in range(4)], ["never", "sure", None, None])
        self.assertEqual(status_round(made(R), half, (), (1,)), ())

    def test_all_dead(self):
        dead = R_DEAD + S_DEAD
        for formula, status in ((R, "doubt"), (UNLIKE, "doubt"), (("or", (R, ("not", R))), "sure"), (("or", ()), "never")):
            self.assertEqual((status_of(made(formula), NOTHING, dead, (1,)),
                              status_round(made(formula), NOTHING, dead, (1,))), (status, ()))
        half = with_names(STORE, NOTHING, [r(0, 0)])
        self.assertEqual([status_of(made(R), half, dead, (at,)) for at in range(4)], ["never", "sure", "doubt", "doubt"])

    def test_some_indexes_of_the_layer_live(self):
        dead = [["r", 0, 0]]
        self.assertIsNone(status_of(made(R), NOTHING, dead, (0,)))
        self.assertEqual(status_round(made(R), NOTHING, dead, (0,)), (r(1, 0),))
        self.assertEqual(status_round(made(R), NOTHING, [("r", 0, 1)] * 2, (0,)), (r(0, 0),))

    def test_a_lost_row_that_settles_the_status(self):
        """"r or s, not both": in doubt whatever r is."""
        self.assertEqual(status_of(made(UNLIKE), NOTHING, S_DEAD, (0,)), "doubt")
        self.assertEqual(status_round(made(UNLIKE), NOTHING, S_DEAD, (0,)), ())
        both = made(("and", (R, S)))
        self.assertIsNone(status_of(both, NOTHING, S_DEAD, (0,)))
        self.assertEqual(status_round(both, NOTHING, S_DEAD, (0,)), (r(0, 0), r(1, 0)))
        half = with_names(STORE, NOTHING, [r(0, 0)])
        self.assertEqual([status_of(both, half, S_DEAD, (at,)) for at in range(4)], ["never", "doubt", None, None])
        either = made(("or", (R, S)))
        self.assertEqual([status_of(either, half, S_DEAD, (at,)) for at in range(3)], ["doubt", "sure", None])
        self.assertEqual([status_of(either, half, R_DEAD, (at,)) for at in range(3)], [None, "sure", None])

    def test_rows_that_the_status_does_not_hang_on(self):
        """A row on which the formula hangs, but not the word."""
        formula = ("or", (("and", (R, S)), ("and", (("not", R), ("not", S)))))
        self.assertEqual(status_round(made(formula), NOTHING, S_DEAD, (0,)), ())
        self.assertNotEqual(round_at(made(formula), NOTHING, (0,)), ())
        tables = TABLES + (("t", (4,)),)
        question = Question(tables, (4,), ("and", (UNLIKE, ("row", "t", (A,)))), ("all",))
        known = Known(STORE.shape + (("t", (4,), (2,)),))
        self.assertEqual(status_round(question, known, S_DEAD, (0,)), (("t", 0, 0, (0,)), ("t", 0, 1, (0,))))

    def test_older_layers(self):
        """A row becomes lost when its newest layer is known and the next one is dead."""
        store = Store([Table("r", [laid_line("p-g-", "0123"), laid_line("pppp", "0123")])])
        question = Question((("r", (4,)),), (4,), R, ("all",))
        nothing, dead = Known(store.shape), [("r", 1, 0)]
        self.assertIsNone(status_of(question, nothing, dead, (0,)))
        self.assertEqual(status_round(question, nothing, dead, (1,)), (("r", 0, 0, (1,)),))
        known = all_known(store).only([("r", 0, 0, (0,))])
        self.assertEqual([status_of(question, known, dead, (at,)) for at in range(4)], ["sure", "doubt", "never", "doubt"])
        dead = [("r", 0, 0)]
        self.assertEqual([status_of(question, nothing, dead, (at,)) for at in range(4)], ["doubt"] * 4)
        known = all_known(store).only([("r", 1, 0, (0,))])
        self.assertEqual([status_of(question, known, dead, (at,)) for at in range(4)], ["doubt"] * 4)

    def test_reads_are_ascending(self):
        """Two rows of one table in unlike layers: the READs are ascending as tuples, not row by row."""
        store = Store([Table("r", [laid_line("----", "02/13"), laid_line("----", "0123")])])
        question = Question((("r", (4,)),), (2, 2), ("and", (R, ("row", "r", (("num", 1),)))), ("all",))
        known = with_names(store, Known(store.shape), [("r", 0, 0, (0,))])
        self.assertEqual(status_round(question, known, (), (0, 0)), (("r", 0, 0, (1,)), ("r", 1, 0, (0,))))

    def test_no_variables(self):
        question = Question(TABLES, (), ("row", "s", (("num", 2),)), ("count",))
        self.assertEqual(status_round(question, NOTHING, R_DEAD, ()), (s(2),))
        self.assertEqual(status_of(question, NOTHING, S_DEAD, ()), "doubt")
        told = read_partial(question, STORE, NOTHING, R_DEAD)
        self.assertEqual((told.sure, told.never, told.doubt, told.rounds), ((), ((),), (), ((s(1),),)))

    def test_read_partial(self):
        question = made(("and", (R, S)))
        told = unchanged(self, read_partial, question, STORE, NOTHING, S_DEAD)
        rounds = ((r(0, 0), r(1, 0)), (r(0, 2), r(1, 1)))
        self.assertEqual((told.sure, told.never, told.doubt, told.rounds), ((), ((0,), (3,)), ((1,), (2,)), rounds))
        self.assertEqual(told.known, with_names(STORE, NOTHING, rounds[0] + rounds[1]))
        told = read_partial(question, STORE, with_names(STORE, NOTHING, [s(1)]), S_DEAD)
        self.assertEqual((told.sure, told.never, told.doubt), ((), ((0,), (1,), (2,), (3,)), ()))
        self.assertEqual(told.rounds, rounds)
        told = read_partial(question, None, NOTHING, S_DEAD + R_DEAD)
        self.assertEqual(told, Partial((), (), ((0,), (1,), (2,), (3,)), (), NOTHING))
        told = read_partial(made(UNLIKE), None, NOTHING, S_DEAD)
        self.assertEqual(told, Partial((), (), ((0,), (1,), (2,), (3,)), (), NOTHING))
        told = read_partial(question, STORE, NOTHING, [("r", 0, 1)])
        self.assertEqual(told.rounds, ((r(0, 0), s(0)), (s(1),), (r(0, 2), s(3))))
        self.assertEqual((told.sure, told.doubt), ((), ()))

    def test_one_page_for_two_reads(self):
        store = Store([Table("r", [laid_line("----", "0123")])])
        question = Question((("r", (4,)),), (4,), ("and", (R, ("row", "r", (("num", 3),)))), ("all",))
        told = read_partial(question, store, Known(store.shape), ())
        self.assertEqual(told.rounds, ((("r", 0, 0, (0,)),),))

    def test_partial(self):
        told = Partial(((0,),), ((1,),), ((2,),), ((s(0),),), NOTHING)
        self.assertEqual((told.sure, told.never, told.doubt, told.rounds, told.known),
                         (((0,),), ((1,),), ((2,),), ((s(0),),), NOTHING))
        self.assertTrue(told == Partial(((0,),), ((1,),), ((2,),), ((s(0),),), Known(STORE.shape)))
        for other in (Partial((), ((1,),), ((2,),), ((s(0),),), NOTHING), Partial(((0,),), (), ((2,),), ((s(0),),), NOTHING),
                      Partial(((0,),), ((1,),), (), ((s(0),),), NOTHING), Partial(((0,),), ((1,),), ((2,),), (), NOTHING),
                      Partial(((0,),), ((1,),), ((2,),), ((s(0),),), all_known(STORE)), None):
            self.assertFalse(told == other)


class TestSpread(unittest.TestCase):
    def test_by_hand(self):
        told = Partial(((1,), (2,)), ((0,),), ((3,),), (), NOTHING)
        self.assertEqual(spread_of(made(R, ("count",)), told), (2, 3))
        self.assertEqual(spread_of(made(R, ("sum", (10,))), told), (32, 63))
        self.assertEqual(spread_of(made(("not", R), ("sum", (0,))), Partial((), (), (), (), NOTHING)), (0, 0))

    def test_errors_in_order(self):
        told = Partial((), (), (), (), NOTHING)
        for formula in (R, UNLIKE):
            for kind in (("all",), ("any",), ("first", 1, (1,), ())):
                self.assertEqual(raised(spread_of, made(formula, kind), told), ("NoSpread", "kind"))
        for kind in (("count",), ("sum", (2,))):
            self.assertEqual(raised(spread_of, made(UNLIKE, kind), told), ("NoSpread", "both"))


class TestDoubtStores(unittest.TestCase):
    def check(self, question, store, known, dead, point):
        told = unchanged(self, doubt_stores, question, store, known, dead, point)
        self.assertIsInstance(told, tuple)
        self.assertEqual([point_worth(question, made_store, point) for made_store in told], [True, False])
        living = [entry for entry in store.each_entry() if entry[:3] not in dead]
        for made_store in told:
            self.assertEqual([name_of(entry) + (entry[3].place,) for entry in made_store.each_entry()],
                             [name_of(entry) + (entry[3].place,) for entry in store.each_entry()])
            self.assertTrue(all(made_store.holds(entry) for entry in list(known.entries) + living))

    def test_by_hand(self):
        self.check(made(UNLIKE), STORE, NOTHING, S_DEAD, (0,))
        self.check(made(UNLIKE), STORE, NOTHING, R_DEAD, (0,))
        self.check(made(UNLIKE), STORE, NOTHING, S_DEAD + R_DEAD, (0,))
        question = made(("and", (R, S)))
        known = with_names(STORE, NOTHING, [r(0, 0)])
        self.check(question, STORE, known, S_DEAD, (1,))
        for point in ((0,), (2,), (3,)):
            self.assertEqual(raised(doubt_stores, question, STORE, known, S_DEAD, point), ("NotInDoubt", point))
        known = with_names(STORE, known, [s(1)])
        self.assertEqual(raised(doubt_stores, question, STORE, known, S_DEAD, (1,)), ("NotInDoubt", (1,)))
        self.assertEqual(raised(doubt_stores, made(R), STORE, all_known(STORE), S_DEAD, (1,)), ("NotInDoubt", (1,)))

    def test_a_living_row_that_becomes_lost(self):
        """A living row is not known yet; its living page sends the reader on to a dead layer."""
        store = Store([Table("r", [laid_line("----", "0123"), laid_line("p-p-", "0123")]),
                       Table("s", [laid_line("p--p", "0/12/3")])])
        nothing = Known(store.shape)
        dead = (("r", 1, 0), ("s", 0, 0))
        for at in range(4):
            self.assertEqual(status_of(made(UNLIKE), nothing, dead, (at,)), "doubt")
            self.check(made(UNLIKE), store, nothing, dead, (at,))

    def test_random(self):
        seen = 0
        for chance, question, store, known, dead in dead_cases(211, 120):
            for point in all_points_of(question):
                if status_of(question, known, dead, point) == "doubt":
                    seen += 1
                    self.check(question, store, known, dead, point)
                else:
                    self.assertEqual(raised(doubt_stores, question, store, known, dead, point), ("NotInDoubt", point))
        self.assertGreater(seen, 50)


def dead_cases(seed, many, shares=(0, 0.2, 0.5)):
    """Small questions with a store, known pages and dead indexes in any order, some of them doubled."""
    for chance, question, store, known in small_stores(seed, many, shares=shares):
        indexes = sorted({entry[:3] for entry in store.each_entry()})
        share = chance.choice([0, 0.3, 0.6, 0.8])
        dead = [index for index in indexes if chance.random() < share]
        dead += dead[:1]
        chance.shuffle(dead)
        yield chance, question, store, known, dead


def lost_rows(known, dead, rows):
    """Of unknown rows, those of which all indexes of the first unknown layer are dead."""
    counts = {table: many for table, _, many in known.shape}
    lost = []
    for table, row in rows:
        layer = known.first_unknown(table, row)
        if all((table, layer, index) in dead for index in range(counts[table][layer])):
            lost.append((table, row))
    return lost


def plain_words(question, known, dead, point):
    """By each filling of the living rows of the point, the word of [15.8]."""
    rows = plain_rows(question.formula, point)
    unknown = [couple for couple in sorted(rows) if known.row_worth(*couple) is None]
    lost = lost_rows(known, dead, unknown)
    living = [couple for couple in unknown if couple not in lost]
    words = {}
    for worths in itertools.product([False, True], repeat=len(living)):
        holds = set()
        for others in itertools.product([False, True], repeat=len(lost)):
            told = dict(zip(living + lost, worths + others))
            held = {couple: told.get(couple, known.row_worth(*couple)) for couple in rows}
            holds.add(plain_holds(question.formula, point, lambda table, row: held[(table, row)]))
        words[worths] = {(True,): "sure", (False,): "never"}.get(tuple(holds), "doubt")
    return living, words


def living_known(store, known, dead):
    """The known pages and all living pages of the store."""
    return with_names(store, known, [place for place in store.page_names if place[:3] not in dead])


def status_in(question, store, known, dead, point):
    """The status in one store."""
    return {True: "sure", False: "never", None: "doubt"}[decided(question, living_known(store, known, dead), point)]


class TestRandom(unittest.TestCase):
    def test_status_against_fillings(self):
        seen = {}
        for chance, question, store, known, dead in dead_cases(212, 150):
            counts = {table: many for table, _, many in known.shape}
            for point in all_points_of(question):
                living, words = plain_words(question, known, dead, point)
                expected = list(words.values())[0] if len(set(words.values())) == 1 else None
                status = unchanged(self, status_of, question, known, dead, point)
                self.assertEqual(status, expected)
                seen[status] = seen.get(status, 0) + 1
                hanging = [couple for at, couple in enumerate(living) if any(
                    words[worths] != words[worths[:at] + (not worths[at],) + worths[at + 1:]] for worths in words)]
                reads = [(table, known.first_unknown(table, row), index, row) for table, row in hanging
                         for index in range(counts[table][known.first_unknown(table, row)])]
                reads = tuple(sorted(read for read in reads if read[:3] not in dead))
                self.assertEqual(unchanged(self, status_round, question, known, dead, point), reads)
                self.assertEqual(reads == (), status is not None)
                self.assertTrue(only_tuples(reads))
        self.assertGreater(min(seen.values()), 30)
        self.assertEqual(len(seen), 4)

    def test_status_against_stores(self):
        """The status is told exactly if it is one in all stores that hold the known pages."""
        seen = {True: 0, False: 0}
        for chance, question, store, known, dead in dead_cases(213, 60, (0.3, 0.6)):
            for point in all_points_of(question)[:4]:
                rows = plain_rows(question.formula, point)
                if len([couple for couple in rows if known.row_worth(*couple) is None]) > 3:
                    continue
                statuses = {status_in(question, filled_store(store, known, worths), known, dead, point)
                            for worths in plain_fillings(known, rows)}
                told = status_of(question, known, dead, point)
                self.assertEqual(told is None, len(statuses) > 1)
                if told is not None:
                    self.assertEqual(statuses, {told})
                    self.assertEqual(status_in(question, store, known, dead, point), told)
                seen[told is None] += 1
        self.assertGreater(min(seen.values()), 10)

    def test_read_partial(self):
        for chance, question, store, known, dead in dead_cases(214, 120):
            told = unchanged(self, read_partial, question, store, known, dead)
            by_word = {"sure": [], "never": [], "doubt": []}
            for point in all_points_of(question):
                by_word[status_in(question, store, known, dead, point)].append(point)
            self.assertEqual((told.sure, told.never, told.doubt),
                             (tuple(by_word["sure"]), tuple(by_word["never"]), tuple(by_word["doubt"])))
            places = [place for names in told.rounds for place in names]
            self.assertEqual(len(places), len(set(places)))
            self.assertFalse(set(places) & set(known.names))
            self.assertTrue(all(place[:3] not in dead for place in places))
            self.assertEqual(told.known, with_names(store, known, places))
            self.assertEqual(told.rounds, self.plain_rounds(question, store, known, dead))
            self.assertTrue(only_tuples((told.sure, told.never, told.doubt, told.rounds)))

    def plain_rounds(self, question, store, known, dead):
        rounds = []
        while True:
            first = [point for point in all_points_of(question) if status_of(question, known, dead, point) is None][:1]
            if not first:
                return tuple(rounds)
            names = {store.place_of(*read) for read in status_round(question, known, dead, first[0])}
            rounds.append(tuple(sorted(names)))
            known = with_names(store, known, names)

    def test_factor(self):
        """[15.10]: for sets of living pages that with the known ones settle every status."""
        for chance, question, store, known, dead in dead_cases(215, 80, (0, 0.2)):
            told = read_partial(question, store, known, dead)
            most = most_pages(question, store.shape)
            names = [place for place in store.page_names if place[:3] not in dead and place not in known.names]
            for place in chance.sample(names, len(names)):
                fewer = [other for other in names if other != place]
                more = with_names(store, known, fewer)
                if None not in [status_of(question, more, dead, point) for point in all_points_of(question)]:
                    names = fewer
            self.assertLessEqual(len(told.rounds), len(names))
            self.assertTrue(all(1 <= len(places) <= most for places in told.rounds))
            self.assertTrue(all(set(places) & set(names) for places in told.rounds))

    def test_the_kind_means_nothing(self):
        for chance, question, store, known, dead in dead_cases(216, 40):
            other = Question(question.tables, question.widths, question.formula, ("count",))
            self.assertEqual(read_partial(question, store, known, dead), read_partial(other, store, known, dead))

    def test_spread(self):
        """Some stores with the same known and living pages count the least and the greatest of the spread."""
        chance = seeded(217)
        seen = 0
        for at in range(200):
            question = random_question(chance, ("count", "sum")[at % 2])
            store = random_store(chance, question, 1)
            indexes = sorted({entry[:3] for entry in store.each_entry()})
            dead = [index for index in indexes if chance.random() < 0.6]
            if raised(spread_of, question, Partial((), (), (), (), None)) is not None:
                continue
            told = read_partial(question, store, some_known(chance, store, 0.2), dead)
            rows = set().union(*[plain_rows(question.formula, point) for point in all_points_of(question)])
            now = living_known(store, told.known, dead)
            if len([couple for couple in rows if now.row_worth(*couple) is None]) > 6:
                continue
            sums = {sum(weight_of(question, point) for point in all_points_of(question) if plain_holds(
                question.formula, point, lambda table, row: worths[(table, row)]))
                for worths in plain_fillings(now, rows)}
            self.assertEqual(spread_of(question, told), (min(sums), max(sums)))
            seen += min(sums) < max(sums)
        self.assertGreater(seen, 15)


if __name__ == "__main__":
    unittest.main()
