"""Tests of fewfetches.least: 13.1 to 13.6 and 13.10."""

import itertools
import unittest

from fewfetches.deciding import decided, hangs_on
from fewfetches.engine import run_engine
from fewfetches.knowledge import Known
from fewfetches.least import charge_rounds, gaining_pages, least_more, more_known, spare_pages
from fewfetches.questions import Question
from fewfetches.relevant import counts_open, determined
from fewfetches.rounds import most_pages, round_at
from fewfetches.stores import Store, Table
from tests.helpers import (no_sequences, only_tuples, raised, random_marks, random_parting, rows_of, seeded, unchanged)
from tests.makers import (WORDS, all_known, all_points_of, laid_layer, laid_line, promised, settling_sets, small_stores,
                          some_known, unknown_names, with_names)
from tests.onetable import ALL, ANY, B, COUNT_BOTH, NOTHING, ROW, STORE, TABLES, name


def wrong_names(store_name=("t", 0, 0, (2,))):
    """Things that are no page name of STORE."""
    table, layer, index, row = store_name
    return no_sequences() + [
        ("s", layer, index, row), (table, 1, index, row), (table, -1, index, row), (table, layer, 2, row),
        (table, layer, index, (1,)), (table, layer, index, (4,)), (table, layer, index, (-1,)),
        (table, layer, index, ()), (table, layer, index, (2, 0)), (table, layer, index, 2), (table, layer, index),
        (table, False, index, row), (table, layer, False, row), (table, layer, 0, (False,)),
        (table, layer, 1, (True,)), list(store_name), (table, layer, index, [2]), (3, layer, index, row),
        (["t"], layer, index, row), (table, 0.0, index, row), (table, layer, index, (2.0,)),
        (table, "0", index, row), (table, layer, None, row), (table, layer, index, row, 0), ()]


def reads_played(question, store, known):
    """The pages of each round as sets, played page by page."""
    return [set(names) for names in run_engine(question, store, known).rounds]


class TestGaining(unittest.TestCase):
    def test_by_hand(self):
        self.assertEqual(gaining_pages(ALL, STORE, NOTHING, (0,)), (name(0, 0), name(1, 0)))
        self.assertEqual(gaining_pages(ALL, STORE, NOTHING, (3,)), (name(0, 2), name(1, 1)))
        known = with_names(STORE, NOTHING, [name(1, 1)])
        self.assertEqual(gaining_pages(ALL, STORE, known, (3,)), ())
        question = Question(TABLES, (4, 4), ("and", (ROW, ("row", "t", (B,)))), ("all",))
        self.assertEqual(gaining_pages(question, STORE, NOTHING, (0, 1)), (name(0, 0), name(1, 0), name(1, 1)))
        self.assertEqual(gaining_pages(question, STORE, NOTHING, (0, 0)), (name(0, 0), name(1, 0)))

    def test_older_layers(self):
        store = Store([Table("t", [laid_line("p-g-", "01/23"), laid_line("ppp-", "02/13", "0/1/2/3")])])
        known = with_names(store, Known(store.shape), [("t", 0, 0, (0,))])
        self.assertEqual(gaining_pages(ALL, store, known, (0,)), ())
        self.assertEqual(gaining_pages(ALL, store, known, (1,)), (("t", 1, 0, (1,)), ("t", 1, 1, (1,))))
        self.assertEqual(gaining_pages(ALL, store, known, (2,)), (("t", 0, 0, (2,)),))

    def test_random(self):
        for chance, question, store, known in small_stores(131, 100):
            most = most_pages(question, store.shape)
            for point in all_points_of(question):
                pages = unchanged(self, gaining_pages, question, store, known, point)
                expected = set()
                for table, row in hangs_on(question, known, point):
                    layer = known.first_unknown(table, row)
                    many = len(store.table_of(table).layers[layer])
                    expected |= {store.place_of(table, layer, index, row) for index in range(many)}
                self.assertEqual(pages, tuple(sorted(expected)))
                self.assertEqual(pages == (), decided(question, known, point) is not None)
                self.assertLessEqual(len(pages), most)
                self.assertEqual(pages == (), round_at(question, known, point) == ())

    def test_each_set_that_determines_holds_one(self):
        for chance, question, store, known in small_stores(132, 60, ("all", "first", "count", "sum")):
            for names in settling_sets(chance, question, store, known):
                for point in all_points_of(question):
                    if counts_open(question, known, point):
                        self.assertTrue(set(gaining_pages(question, store, known, point)) & set(names))


class TestMoreKnown(unittest.TestCase):
    def test_by_hand(self):
        more = unchanged(self, more_known, STORE, NOTHING, [name(0, 2), name(1, 0), name(0, 2)])
        self.assertEqual(more.names, (name(0, 2), name(1, 0)))
        self.assertEqual(more_known(STORE, more, (name(0, 2), name(1, 1))).names, (name(0, 2), name(1, 0), name(1, 1)))
        self.assertEqual(more_known(STORE, more, ()), more)
        self.assertEqual(more_known(STORE, NOTHING, STORE.page_names), all_known(STORE))
        other = more_known(STORE, more, ())
        other.add(("t", 0, 0, STORE.read("t", 0, 0, (0,))))
        self.assertEqual(more.many, 2)

    def test_no_page(self):
        for wrong in wrong_names():
            for names in ([wrong], [name(0, 0), wrong, ("u",)], (name(0, 0), name(0, 0), wrong)):
                told = raised(more_known, STORE, NOTHING, names)
                self.assertEqual(told[0], "NoPage")
                self.assertIs(told[1], wrong)
        known = with_names(STORE, NOTHING, [name(0, 0), name(0, 2)])
        self.assertEqual(raised(more_known, STORE, known, [("t", 0, 0, (1,))]), ("NoPage", ("t", 0, 0, (1,))))
        self.assertEqual(raised(more_known, STORE, known, [("t", False, 0, (2,))])[0], "NoPage")


def plain_least(question, store, known, most):
    """The first of the smallest sets that determine the answer, by trying all sets of pages; None if there is none."""
    names = sorted(unknown_names(store, known))
    for number in range(most + 1):
        for chosen in itertools.combinations(names, number):
            if determined(question, with_names(store, known, chosen)) is not None:
                return chosen
    return None


class TestLeastMore(unittest.TestCase):
    def test_by_hand(self):
        self.assertEqual(least_more(ALL, STORE, NOTHING, 2), (name(0, 0), name(0, 2)))
        self.assertEqual(raised(least_more, ALL, STORE, NOTHING, 1), ("TooMany", 1))
        self.assertEqual(raised(least_more, ALL, STORE, NOTHING, 0), ("TooMany", 0))
        known = with_names(STORE, NOTHING, [name(1, 1)])
        self.assertEqual(least_more(ALL, STORE, known, 6), (name(1, 0),))
        known = with_names(STORE, NOTHING, [name(0, 0)])
        self.assertEqual(least_more(ALL, STORE, known, 1), (name(0, 2),))
        self.assertEqual(least_more(ALL, STORE, all_known(STORE), 0), ())
        first = Question(TABLES, (4,), ROW, ("first", 1, (1,), ()))
        self.assertEqual(least_more(first, STORE, NOTHING, 2), (name(0, 2),))

    def test_less_than_the_rounds_would_take(self):
        """Index 1 has one page with all rows."""
        store = Store([Table("t", [laid_line("-pp-", "0/1/2/3", "0123")])])
        self.assertEqual(least_more(ALL, store, Known(store.shape), 4), (name(1, 0),))

    def test_first_as_tuples(self):
        """Several sets of two: the first as tuples is not the one that is found first."""
        store = Store([Table("t", [laid_line("----", "03/1/2", "0/123")])])
        self.assertEqual(least_more(ALL, store, Known(store.shape), 3), (name(0, 0), name(1, 1)))
        store = Store([Table("t", [laid_line("----", "3/012", "03/12")])])
        self.assertEqual(least_more(ALL, store, Known(store.shape), 3), (name(0, 0), name(0, 3)))

    def test_no_factor_comes_first(self):
        for most in (0, 3):
            self.assertEqual(raised(least_more, ANY, STORE, all_known(STORE), most), ("NoFactor", "any"))
            self.assertEqual(raised(least_more, COUNT_BOTH, STORE, NOTHING, most), ("NoFactor", "both"))

    def test_against_all_sets(self):
        seen = {}
        for chance, question, store, known in small_stores(133, 220, ("all", "first", "count", "sum"), (0, 0.3, 0.7)):
            if not promised(question) or len(unknown_names(store, known)) > 30:
                continue
            least = plain_least(question, store, known, 2)
            for most in range(3):
                if least is None or len(least) > most:
                    self.assertEqual(raised(least_more, question, store, known, most), ("TooMany", most))
                else:
                    told = unchanged(self, least_more, question, store, known, most)
                    self.assertEqual(told, least)
                    self.assertTrue(only_tuples(told))
            seen[least and len(least)] = seen.get(least and len(least), 0) + 1
        self.assertGreater(min(seen[2], seen[1]), 10)

    def test_greater_sets(self):
        """Least sets of 3 pages and more, in indexes of small pages."""
        chance = seeded(134)
        seen = 0
        for at in range(60):
            lots = [random_parting(chance, rows_of((5,)), 8) for _ in range(chance.choice([1, 2, 2]))]
            store = Store([Table("t", [laid_layer((5,), dict(random_marks(chance, rows_of((5,)))), lots)])])
            kind = chance.choice([("all",), ("count",), ("first", 2, (1,), ())])
            question = Question((("t", (5,)),), (5,), chance.choice([ROW, ("not", ROW)]), kind)
            known = some_known(chance, store, 0.1)
            least = plain_least(question, store, known, 6)
            if len(least) > 2:
                seen += 1
                self.assertEqual(least_more(question, store, known, 6), least)
                self.assertEqual(raised(least_more, question, store, known, len(least) - 1),
                                 ("TooMany", len(least) - 1))
        self.assertGreater(seen, 12)

    def test_more_known_pages(self):
        """[13.10]"""
        for chance, question, store, known in small_stores(135, 60, ("all", "first", "count")):
            if not promised(question) or raised(least_more, question, store, known, 3):
                continue
            least = len(least_more(question, store, known, 3))
            for page_name in unknown_names(store, known)[::2]:
                more = least_more(question, store, with_names(store, known, [page_name]), 3)
                self.assertIn(least - len(more), (0, 1))


def plain_spare(question, store, known, order):
    rest = unknown_names(store, known)
    for page_name in order:
        fewer = [other for other in rest if other != page_name]
        if determined(question, with_names(store, known, fewer)) is not None:
            rest = fewer
    return tuple(sorted(rest))


class TestSparePages(unittest.TestCase):
    def test_by_hand(self):
        pages = [name(0, 0), name(0, 2), name(1, 0), name(1, 1)]
        self.assertEqual(spare_pages(ALL, STORE, NOTHING, ()), tuple(pages))
        self.assertEqual(spare_pages(ALL, STORE, NOTHING, pages), (name(1, 0), name(1, 1)))
        self.assertEqual(spare_pages(ALL, STORE, NOTHING, pages[::-1]), (name(0, 0), name(0, 2)))
        self.assertEqual(spare_pages(ALL, STORE, NOTHING, [name(0, 0), name(1, 0)]), (name(0, 2), name(1, 0), name(1, 1)))
        self.assertEqual(spare_pages(ALL, STORE, NOTHING, (name(0, 0), name(1, 1), name(0, 0), name(0, 2))),
                         (name(1, 0), name(1, 1)))
        self.assertEqual(spare_pages(ALL, STORE, NOTHING, (name(0, 0), name(1, 1), name(1, 1))),
                         (name(0, 2), name(1, 0), name(1, 1)))
        known = with_names(STORE, NOTHING, [name(0, 0)])
        self.assertEqual(spare_pages(ALL, STORE, known, [name(0, 0), name(1, 0)]), (name(0, 2), name(1, 1)))
        self.assertEqual(spare_pages(ALL, STORE, known, pages), (name(1, 0), name(1, 1)))
        self.assertEqual(spare_pages(ALL, STORE, known, pages[::-1]), (name(0, 2),))
        self.assertEqual(spare_pages(ALL, STORE, all_known(STORE), pages), ())
        self.assertEqual(spare_pages(ANY, STORE, NOTHING, pages), (name(1, 1),))
        self.assertEqual(spare_pages(COUNT_BOTH, STORE, NOTHING, pages), ())

    def test_no_page(self):
        for wrong in wrong_names():
            told = raised(spare_pages, ALL, STORE, NOTHING, [name(0, 0), wrong, ("u",)])
            self.assertEqual(told[0], "NoPage")
            self.assertIs(told[1], wrong)

    def test_random(self):
        for chance, question, store, known in small_stores(136, 60):
            names = list(store.page_names)
            order = chance.sample(names, len(names))
            left = unchanged(self, spare_pages, question, store, known, order)
            self.assertEqual(left, plain_spare(question, store, known, order))
            for page_name in left:
                rest = [other for other in left if other != page_name]
                self.assertIsNone(determined(question, with_names(store, known, rest)))
            some = [chance.choice(names) for _ in range(len(names) // 2)]
            self.assertEqual(spare_pages(question, store, known, some), plain_spare(question, store, known, some))


class TestChargeRounds(unittest.TestCase):
    def test_by_hand(self):
        pages = [name(0, 0), name(0, 2), name(1, 0), name(1, 1)]
        self.assertEqual(charge_rounds(ALL, STORE, NOTHING, pages), (name(0, 0), name(0, 2)))
        self.assertEqual(charge_rounds(ALL, STORE, NOTHING, pages[2:]), (name(1, 0), name(1, 1)))
        self.assertEqual(charge_rounds(ALL, STORE, NOTHING, [name(1, 1), name(1, 0), name(0, 2), name(1, 1)]),
                         (name(1, 0), name(0, 2)))
        known = with_names(STORE, NOTHING, [name(0, 0)])
        self.assertEqual(charge_rounds(ALL, STORE, known, [name(0, 2), name(0, 0)]), (name(0, 2),))
        self.assertEqual(charge_rounds(ALL, STORE, known, [name(0, 2)]), (name(0, 2),))
        self.assertEqual(charge_rounds(ALL, STORE, all_known(STORE), ()), ())
        self.assertEqual(charge_rounds(ALL, STORE, all_known(STORE), pages), ())

    def test_errors_in_order(self):
        wrong = ("t", 0, 0, (1,))
        self.assertEqual(raised(charge_rounds, ANY, STORE, NOTHING, [wrong]), ("NoFactor", "any"))
        self.assertEqual(raised(charge_rounds, COUNT_BOTH, STORE, NOTHING, [wrong]), ("NoFactor", "both"))
        self.assertEqual(raised(charge_rounds, ALL, STORE, all_known(STORE), [wrong]), ("NoPage", wrong))
        for wrong in wrong_names():
            told = raised(charge_rounds, ALL, STORE, NOTHING, [name(0, 0), wrong, 3])
            self.assertEqual(told[0], "NoPage")
            self.assertIs(told[1], wrong)
        for names in ((), [name(0, 0)], [name(0, 0), name(1, 0)], (name(0, 0), name(0, 0))):
            self.assertEqual(raised(charge_rounds, ALL, STORE, NOTHING, names), ("NotEnough",))

    def test_random(self):
        for chance, question, store, known in small_stores(137, 80, WORDS):
            if not promised(question):
                continue
            rounds = reads_played(question, store, known)
            for names in settling_sets(chance, question, store, known):
                named = names + chance.sample(known.names, min(2, known.many)) + names[:1]
                chance.shuffle(named)
                told = unchanged(self, charge_rounds, question, store, known, named)
                self.assertEqual(told, tuple(min(pages & set(named)) for pages in rounds))
                self.assertEqual(len(set(told)), len(told))
                self.assertFalse(set(told) & set(known.names))
                if names:
                    self.assertEqual(raised(charge_rounds, question, store, known, names[1:]), ("NotEnough",))


if __name__ == "__main__":
    unittest.main()
