"""Tests of fewfetches.floors: 13.1 and 13.7 to 13.9."""

import unittest

from fewfetches.floors import floor_fault, floor_of
from fewfetches.knowledge import Known
from fewfetches.least import gaining_pages, least_more
from fewfetches.questions import Question
from fewfetches.relevant import counts_open, first_open
from fewfetches.stores import Store, Table
from tests.helpers import Odd, no_sequences, only_tuples, raised, unchanged
from tests.makers import (all_known, all_points_of, laid_line, promised, small_stores, unknown_names, with_names)
from tests.onetable import ALL, ANY, COUNT_BOTH, NOTHING, ROW, STORE, TABLES, name

FIRST = Question(TABLES, (4,), ROW, ("first", 2, (1,), ()))


# behind the page with 0 and 1 of index 0 the points 2 and 3 count, behind that of index 1 the points 1 and 3
TWO = ((0,), ((name(0, 0), ((3,), ())), (name(1, 0), ((1,), ()))))


def plain_fault(question, store, known, number, floor, place=()):
    """The first fault by the words of [13.9], of floors whose nodes are well formed."""
    if number == 0:
        return None if floor == () else (place, "node")
    point, branches = floor
    if point not in all_points_of(question) or not counts_open(question, known, point):
        return place, "point"
    if number == 1:
        return (place, "pages") if branches else None
    if tuple(branch[0] for branch in branches) != gaining_pages(question, store, known, point):
        return place, "pages"
    for at, (page_name, lower) in enumerate(branches):
        fault = plain_fault(question, store, with_names(store, known, [page_name]), number - 1, lower, place + (at,))
        if fault:
            return fault
    return None


class TestFloorOf(unittest.TestCase):
    def test_by_hand(self):
        self.assertEqual(floor_of(ALL, STORE, NOTHING, 0), ())
        self.assertEqual(floor_of(ALL, STORE, all_known(STORE), 0), ())
        self.assertIsNone(floor_of(ALL, STORE, all_known(STORE), 1))
        self.assertIsNone(floor_fault(ALL, STORE, NOTHING, 1, floor_of(ALL, STORE, NOTHING, 1)))
        two = floor_of(ALL, STORE, NOTHING, 2)
        self.assertIsNone(floor_fault(ALL, STORE, NOTHING, 2, two))
        self.assertTrue(only_tuples(two))
        self.assertIsNone(floor_of(ALL, STORE, NOTHING, 3))
        self.assertIsNone(floor_of(ALL, STORE, NOTHING, 6))

    def test_no_factor_comes_first(self):
        for number in (0, 1, 3):
            self.assertEqual(raised(floor_of, ANY, STORE, all_known(STORE), number), ("NoFactor", "any"))
            self.assertEqual(raised(floor_of, COUNT_BOTH, STORE, NOTHING, number), ("NoFactor", "both"))
            self.assertEqual(raised(floor_fault, ANY, STORE, all_known(STORE), number, 3), ("NoFactor", "any"))
            self.assertEqual(raised(floor_fault, COUNT_BOTH, STORE, NOTHING, number, None), ("NoFactor", "both"))

    def test_greatest_number_is_the_least(self):
        seen = {}
        for chance, question, store, known in small_stores(151, 120, ("all", "first", "count", "sum"), (0, 0.3, 0.6)):
            if not promised(question):
                continue
            try:
                least = len(least_more(question, store, known, 3))
            except ValueError:
                # four or more
                least = 4
            for number in range(5):
                floor = unchanged(self, floor_of, question, store, known, number)
                self.assertEqual(floor is None, number > least)
                if floor is not None:
                    self.assertIsNone(unchanged(self, floor_fault, question, store, known, number, floor))
                    self.assertIsNone(plain_fault(question, store, known, number, floor))
                    self.assertTrue(only_tuples(floor))
            seen[least] = seen.get(least, 0) + 1
        self.assertGreater(min(seen[1], seen[2]), 5)


class TestFloorFault(unittest.TestCase):
    def judge(self, number, floor, fault, question=ALL, known=NOTHING):
        self.assertEqual(floor_fault(question, STORE, known, number, floor), fault, (number, floor))

    def test_right(self):
        self.judge(0, (), None)
        self.judge(0, (), None, known=all_known(STORE))
        for at in range(4):
            self.judge(1, ((at,), ()), None)
        self.judge(2, TWO, None)
        self.judge(2, ((0,), ((name(0, 0), ((2,), ())), (name(1, 0), ((3,), ())))), None)
        self.judge(2, ((2,), ((name(0, 2), ((0,), ())), (name(1, 0), ((3,), ())))), None)

    def test_node(self):
        for thing in no_sequences() + [[], [()], ((),), ((0,), ()), 0, False]:
            self.judge(0, thing, ((), "node"))
        for number in (1, 2):
            for thing in no_sequences() + [(), [], ((0,),), ((0,), (), ()), [(0,), ()], ((0,), []), ((0,), 3),
                                           ((0,), None), ((0,), "ab"), ((0,), (3,)), ((0,), ((),)),
                                           ((0,), ([name(0, 0), ()],)), ((0,), ((name(0, 0),),)),
                                           ((0,), ((name(0, 0), (), ()),)), ((0,), ("ab",))]:
                self.judge(number, thing, ((), "node"))
        for lower in no_sequences() + [(), [(3,), ()], ((3,),), ((3,), (5,))]:
            self.judge(2, (TWO[0], ((TWO[1][0][0], lower), TWO[1][1])), ((0,), "node"))
            self.judge(2, (TWO[0], (TWO[1][0], (TWO[1][1][0], lower))), ((1,), "node"))

    def test_point(self):
        for point in no_sequences() + [[0], (), (0, 0), (4,), (-1,), (True,), (False,), (0.0,), (None,), ("0",), ((0,),)]:
            self.judge(1, (point, ()), ((), "point"))
            self.judge(2, (point, TWO[1]), ((), "point"))
            self.judge(2, (TWO[0], ((TWO[1][0][0], (point, ())), TWO[1][1])), ((0,), "point"))
        self.judge(1, ((0,), ()), ((), "point"), known=all_known(STORE))
        known = with_names(STORE, NOTHING, [name(0, 0)])
        self.judge(1, ((1,), ()), ((), "point"), known=known)
        self.judge(2, (TWO[0], (TWO[1][0], (name(1, 0), ((2,), ())))), ((1,), "point"))
        self.judge(2, (TWO[0], ((name(0, 0), ((1,), ())), TWO[1][1])), ((0,), "point"))

    def test_point_that_does_not_count(self):
        """Of "first", only the point with all points ahead decided counts."""
        self.judge(1, ((3,), ()), None, FIRST)
        self.judge(1, ((2,), ()), ((), "point"), FIRST)
        known = with_names(STORE, NOTHING, [name(0, 2)])
        self.judge(1, ((1,), ()), None, FIRST, known)
        self.judge(1, ((0,), ()), ((), "point"), FIRST, known)

    def test_pages(self):
        branches = TWO[1]
        self.judge(1, ((0,), branches), ((), "pages"))
        self.judge(1, ((0,), ((name(0, 0), ()),)), ((), "pages"))
        self.judge(2, ((0,), ()), ((), "pages"))
        for wrong in (branches[:1], branches[1:], branches[::-1], branches + branches[1:], branches[:1] * 2):
            self.judge(2, ((0,), wrong), ((), "pages"))
        for other in (name(0, 1), name(0, 2), ("s", 0, 0, (0,)), list(name(0, 0)), ("t", False, 0, (0,)),
                      ("t", 0, False, (0,)), ("t", 0, 0, (False,)), ("t", 0, 0, [0]), ("t", 0, 0.0, (0,)), None, 3, (), Odd()):
            self.judge(2, ((0,), ((other, ((3,), ())), branches[1])), ((), "pages"))
        self.judge(2, ((0,), (branches[0], (("t", 0, True, (0,)), ((1,), ())))), ((), "pages"))

    def test_lower_number_behind_the_last_branch(self):
        self.judge(2, (TWO[0], ((name(0, 0), ((3,), ((name(0, 2), ()),))), TWO[1][1])), ((0,), "pages"))
        self.judge(2, (TWO[0], (TWO[1][0], (name(1, 0), ((1,), ((name(0, 2), ()),))))), ((1,), "pages"))

    def test_first_in_preorder(self):
        """A fault deep in the first branch comes ahead of one at the root of the second."""
        store = Store([Table("t", [laid_line("------", "0/1/2/3/4/5", "01/23/45")])])
        question = Question((("t", (6,)),), (6,), ROW, ("all",))
        nothing = Known(store.shape)
        floor = floor_of(question, store, nothing, 3)
        self.assertIsNone(floor_fault(question, store, nothing, 3, floor))
        for first in range(2):
            for second in range(2):
                spoilt = with_spoilt(floor, (first, second), lambda node: (node[0], 3))
                self.assertEqual(floor_fault(question, store, nothing, 3, spoilt), ((first, second), "node"))
                spoilt = with_spoilt(spoilt, (1,), lambda node: ((9,), node[1]))
                expected = ((first, second), "node") if first == 0 else ((1,), "point")
                self.assertEqual(floor_fault(question, store, nothing, 3, spoilt), expected)
        spoilt = with_spoilt(floor, (0, 1), lambda node: ((0,), ()))
        self.assertEqual(floor_fault(question, store, nothing, 3, spoilt), ((0, 1), "point"))

    def test_random(self):
        """Floors spoilt at one place."""
        words = {}
        for chance, question, store, known in small_stores(152, 80, ("all", "first", "count", "sum"), (0, 0.3)):
            if not promised(question) or first_open(question, known) is None:
                continue
            number = 3 if floor_of(question, store, known, 3) is not None else 1
            floor = floor_of(question, store, known, number)
            places = all_places(floor)
            points = all_points_of(question) + [(7,), ()]
            names = unknown_names(store, known)
            for _ in range(6):
                place = chance.choice(places)
                change = chance.choice([
                    lambda node: (chance.choice(points), node[1]),
                    lambda node: (node[0], node[1][1:]),
                    lambda node: (node[0], tuple((chance.choice(names), lower) for _, lower in node[1])),
                    lambda node: (node[0], node[1] + ((chance.choice(names), ()),))])
                spoilt = with_spoilt(floor, place, change)
                fault = plain_fault(question, store, known, number, spoilt)
                self.assertEqual(floor_fault(question, store, known, number, spoilt), fault)
                words[fault and fault[1]] = words.get(fault and fault[1], 0) + 1
        self.assertGreater(min(words[None], words["point"], words["pages"]), 10)


def all_places(floor):
    if floor == ():
        return []
    return [()] + [(at,) + place for at, branch in enumerate(floor[1]) for place in all_places(branch[1])]


def with_spoilt(floor, place, change):
    """The floor with another node at the place."""
    if place == ():
        return change(floor)
    branches = list(floor[1])
    page_name, lower = branches[place[0]]
    branches[place[0]] = (page_name, with_spoilt(lower, place[1:], change))
    return floor[0], tuple(branches)


if __name__ == "__main__":
    unittest.main()
