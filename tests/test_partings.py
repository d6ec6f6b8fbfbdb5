"""Partings of rows into pages: [3.7], [3.8]."""

import unittest

from fewfetches.partings import is_finer, marks_of, ordered_pages, page_at, parting_fault
from tests.helpers import only_tuples, page_of, random_marks, random_parting, rows_of, seeded


def plain_fault(widths, lots):
    """The fault by the words of [3.7], from lots of rows."""
    rows = rows_of(widths)
    beyond = [row for lot in lots for row in lot if row not in rows]
    if beyond:
        return ("beyond", min(beyond))
    for row in rows:
        times = sum(lot.count(row) for lot in lots)
        if times != 1:
            return ("twice" if times else "lack", row)
    return None


class TestPartingFault(unittest.TestCase):
    def test_right_indexes(self):
        for widths in ((4,), (2, 3), (2, 2, 2)):
            rows = rows_of(widths)
            self.assertIsNone(parting_fault(widths, [page_of(rows)]))
            self.assertIsNone(parting_fault(list(widths), tuple(page_of([row]) for row in reversed(rows))))

    def test_lack(self):
        self.assertEqual(parting_fault((3,), []), ("lack", (0,)))
        self.assertEqual(parting_fault((3,), ()), ("lack", (0,)))
        self.assertEqual(parting_fault((3,), [page_of([(0,), (2,)])]), ("lack", (1,)))
        self.assertEqual(parting_fault((2, 2), [page_of([(0, 0), (0, 1), (1, 0)])]), ("lack", (1, 1)))

    def test_twice(self):
        self.assertEqual(parting_fault((3,), [page_of([(0,), (1,), (2,)]), page_of([(1,), (2,)])]), ("twice", (1,)))
        self.assertEqual(parting_fault((1,), [page_of([(0,)])] * 3), ("twice", (0,)))

    def test_the_first_row_tells(self):
        self.assertEqual(parting_fault((4,), [page_of([(0,), (2,)]), page_of([(2,)])]), ("lack", (1,)))
        self.assertEqual(parting_fault((4,), [page_of([(0,), (1,)]), page_of([(1,), (3,)])]), ("twice", (1,)))

    def test_beyond_comes_first_with_the_least_row_of_all_pages(self):
        pages = [page_of([(5,), (0,)]), page_of([(4,), (0,)])]
        self.assertEqual(parting_fault((4,), pages), ("beyond", (4,)))
        self.assertEqual(parting_fault((2, 3), [page_of([(0, 0), (1, 7)]), page_of([(0, 3)])]), ("beyond", (0, 3)))
        self.assertEqual(parting_fault((2, 3), [page_of([(0, 0)]), page_of([(2, 0)])]), ("beyond", (2, 0)))

    def test_another_number_of_columns_is_beyond(self):
        self.assertEqual(parting_fault((4,), [page_of([(0, 0), (3, 0)])]), ("beyond", (0, 0)))
        self.assertEqual(parting_fault((4, 4), [page_of([(1,), (3,)])]), ("beyond", (1,)))
        self.assertEqual(parting_fault((2,), [page_of([(0, 1)]), page_of([(3,)])]), ("beyond", (0, 1)))

    def test_against_a_plain_listing(self):
        chance = seeded(37)
        for widths in ((5,), (2, 3), (2, 2, 2)):
            rows = rows_of([width + 1 for width in widths])
            inner = rows_of(widths)
            for _ in range(300):
                lots = random_parting(chance, inner, 4)
                for _ in range(chance.randint(0, 2)):
                    chance.choice(lots).append(chance.choice(inner))
                if chance.random() < 0.3:
                    lots.append([chance.choice(rows)])
                if chance.random() < 0.3:
                    lots.pop()
                lots = [sorted(set(lot)) for lot in lots]
                chance.shuffle(lots)
                self.assertEqual(parting_fault(widths, [page_of(lot) for lot in lots]), plain_fault(widths, lots))


class TestPages(unittest.TestCase):
    def test_page_at(self):
        low, high, both = page_of([(0,), (1,)]), page_of([(2,)]), page_of([(1,), (2,)], [((1,), "put")])
        for pages in ([low, high, both], (low, high, both)):
            self.assertIs(page_at(pages, (0,)), low)
            self.assertIs(page_at(pages, (1,)), low)
            self.assertIs(page_at(pages, [2]), high)
            self.assertIsNone(page_at(pages, (3,)))
            self.assertIsNone(page_at(pages, (0, 0)))
        self.assertIs(page_at([both, high, low], (1,)), both)
        self.assertIsNone(page_at([], (0,)))

    def test_ordered_pages(self):
        a, b, c = page_of([(0,), (9,)]), page_of([(1,)]), page_of([(2,), (3,)])
        self.assertEqual(ordered_pages([c, a, b]), (a, b, c))
        self.assertEqual(ordered_pages((b, c, a)), (a, b, c))
        self.assertIsInstance(ordered_pages([c]), tuple)
        self.assertEqual(ordered_pages([]), ())

    def test_pages_with_one_first_keep_their_order(self):
        a, b, c = page_of([(1,), (2,)]), page_of([(1,)], [((1,), "put")]), page_of([(0,)])
        self.assertEqual(ordered_pages([a, b, c]), (c, a, b))
        self.assertEqual(ordered_pages([b, c, a]), (c, b, a))
        given = [b, c, a]
        ordered_pages(given)
        self.assertEqual([id(page) for page in given], [id(b), id(c), id(a)])

    def test_marks_of(self):
        pages = [page_of([(0,), (3,)], [((3,), "put")]), page_of([(1,), (2,)], [((2,), "gone"), ((1,), "put")])]
        marks = marks_of(pages)
        self.assertEqual(marks, (((1,), "put"), ((2,), "gone"), ((3,), "put")))
        self.assertTrue(only_tuples(marks))
        self.assertEqual(marks_of(tuple(reversed(pages))), marks)
        self.assertEqual(marks_of([]), ())
        self.assertEqual(marks_of([page_of([(0,)])]), ())


class TestFiner(unittest.TestCase):
    def test_small_cases(self):
        whole = [page_of([(0,), (1,), (2,)])]
        parts = [page_of([(0,), (2,)]), page_of([(1,)])]
        self.assertIs(is_finer(parts, whole), True)
        self.assertIs(is_finer(whole, parts), False)
        self.assertIs(is_finer(tuple(parts), tuple(parts)), True)
        self.assertIs(is_finer([], parts), True)
        self.assertIs(is_finer([], []), True)
        self.assertIs(is_finer(parts, []), False)
        self.assertIs(is_finer([page_of([(0,), (1,)])], parts), False)
        self.assertIs(is_finer([page_of([(0,), (5,)])], whole), False)

    def test_marks_mean_nothing(self):
        self.assertIs(is_finer([page_of([(0,)], [((0,), "put")])], [page_of([(0,), (1,)], [((0,), "gone")])]), True)

    def test_one_page_of_the_others_must_hold_all(self):
        others = [page_of([(0,), (1,)]), page_of([(1,), (2,)])]
        self.assertIs(is_finer([page_of([(1,), (2,)])], others), True)
        self.assertIs(is_finer([page_of([(0,), (1,), (2,)])], others), False)
        self.assertIs(is_finer([page_of([(1,)]), page_of([(0,), (2,)])], others), False)

    def test_for_every_index(self):
        chance = seeded(38)
        for widths in ((6,), (3, 3), (2, 2, 2)):
            rows = rows_of(widths)
            single = [page_of([row]) for row in rows]
            for _ in range(150):
                lots = [random_parting(chance, rows, 4) for _ in range(2)]
                one, other = [[page_of(lot, random_marks(chance, lot)) for lot in parting] for parting in lots]
                plain = all(any(set(lot) <= set(there) for there in lots[1]) for lot in lots[0])
                self.assertIs(is_finer(one, other), plain)
                self.assertIs(is_finer(one, one), True)
                self.assertIs(is_finer(single, one), True)
                self.assertIs(is_finer(one, single), len(one) == len(rows))


if __name__ == "__main__":
    unittest.main()
