"""Tests of fewfetches.policies: 15.1 to 15.4."""

import copy
import unittest

from fewfetches.foes import Foe
from fewfetches.foils import find_foil
from fewfetches.kinds import answer_by, is_right
from fewfetches.knowledge import Known
from fewfetches.policies import (Cheapest, Choices, Everything, FirstGap, InRounds, Log, Policy, open_reads, policy_of,
                                 run_policy, said_answer)
from fewfetches.questions import Question
from fewfetches.relevant import determined
from fewfetches.rounds import next_round
from fewfetches.stores import Store, Table
from tests.helpers import Odd, no_integers, no_sequences, only_tuples, raised, rows_of, seeded, unchanged
from tests.makers import all_known, laid_line, small_stores, with_names
from tests.onetable import A, ALL, NOTHING, ROW, STORE, TABLES, name

TOLDS = (("none",), ("choices", ()), ("choices", (3, -1)), ("gap",), ("cheap",), ("whole",), ("rounds",))


def chosen(policy, known, turn=0, question=ALL):
    return policy.choose(question, known, turn)


class TestOpenReads(unittest.TestCase):
    def test_by_hand(self):
        store = Store([Table("s", [laid_line("p-", "0/1")]), Table("t", [laid_line("-p", "01"),
                                                                           laid_line("--", "0/1", "01")])])
        reads = (("s", 0, 0, (0,)), ("s", 0, 0, (1,)), ("t", 0, 0, (0,)), ("t", 0, 0, (1,)), ("t", 1, 0, (0,)),
                 ("t", 1, 0, (1,)), ("t", 1, 1, (0,)), ("t", 1, 1, (1,)))
        self.assertEqual(open_reads(Known(store.shape)), reads)
        known = with_names(store, Known(store.shape), [("s", 0, 0, (1,)), ("t", 1, 1, (0,))])
        self.assertEqual(open_reads(known), reads[:1] + reads[2:6])
        self.assertEqual(open_reads(all_known(store)), ())

    def test_random(self):
        for _, _, store, known in small_stores(191, 40):
            reads = unchanged(self, open_reads, known)
            expected = [(table, layer, index, row) for table, widths, counts in store.shape
                        for layer, many in enumerate(counts) for index in range(many) for row in rows_of(widths)
                        if store.place_of(table, layer, index, row) not in known.names]
            self.assertEqual(reads, tuple(sorted(expected)))


class TestSaidAnswer(unittest.TestCase):
    def test_by_hand(self):
        self.assertEqual(said_answer(ALL, NOTHING), ())
        self.assertEqual(said_answer(ALL, with_names(STORE, NOTHING, [name(0, 0)])), ((1,),))
        self.assertEqual(said_answer(ALL, all_known(STORE)), ((1,), (2,)))
        question = Question(TABLES, (4,), ("not", ROW), ("count",))
        self.assertEqual(said_answer(question, with_names(STORE, NOTHING, [name(0, 0)])), 3)
        self.assertEqual(said_answer(Question(TABLES, (4,), ROW, ("any",)), NOTHING), None)
        # determined by points that hold whatever the rows are
        question = Question(TABLES, (4,), ("or", (ROW, ("not", ROW))), ("first", 1, (1,), ()))
        self.assertEqual(said_answer(question, NOTHING), ((3,),))
        # the least point decided True, though a row that is not known could be in
        question = Question(TABLES, (4,), ROW, ("any",))
        self.assertEqual(said_answer(question, with_names(STORE, NOTHING, [name(0, 2)])), (2,))

    def test_any(self):
        """The least point decided True, though one ahead of it would hold if its row were out."""
        question = Question(TABLES, (4,), ("not", ROW), ("any",))
        self.assertEqual(said_answer(question, with_names(STORE, NOTHING, [name(0, 2)])), (3,))
        self.assertEqual(said_answer(question, NOTHING), (0,))

    def test_random(self):
        for _, question, store, known in small_stores(192, 80):
            told = determined(question, known)
            rows_in = {(table, row) for table, widths, _ in store.shape for row in rows_of(widths)
                       if known.row_worth(table, row) is True}
            plain = answer_by(question, lambda table, row: (table, row) in rows_in)
            answer = unchanged(self, said_answer, question, known)
            self.assertEqual(answer, plain if told is None else told[0])
            if told is not None:
                self.assertTrue(is_right(question, store, answer))


class TestChoose(unittest.TestCase):
    def test_policy(self):
        self.assertIsNone(chosen(Policy(), NOTHING))
        self.assertIsNone(chosen(Policy(), all_known(STORE)))

    def test_choices(self):
        """There are 8 open reads, so numbers count modulo 9."""
        reads = open_reads(NOTHING)
        for number, place in ((0, 0), (3, 3), (7, 7), (8, None), (9, 0), (-1, None), (-2, 7), (-9, 0), (10 ** 30, 1)):
            expected = None if place is None else reads[place]
            self.assertEqual(chosen(Choices([number]), NOTHING), expected, number)
            self.assertEqual(chosen(Choices((5, number)), NOTHING, 1), expected)
        known = with_names(STORE, NOTHING, [name(0, 0), name(1, 0)])
        self.assertEqual(open_reads(known), (name(0, 2), name(0, 3), name(1, 1), name(1, 3)))
        self.assertEqual([chosen(Choices([number]), known) for number in (2, 4, 5)], [name(1, 1), None, name(0, 2)])
        self.assertIsNone(chosen(Choices([]), NOTHING))
        self.assertIsNone(chosen(Choices([0, 0]), NOTHING, 2))
        self.assertIsNone(chosen(Choices([0, 0]), NOTHING, 7))
        self.assertIsNone(chosen(Choices([0]), all_known(STORE)))

    def test_choices_keep_their_numbers(self):
        numbers = [0]
        policy = Choices(numbers)
        numbers[0] = 1
        self.assertEqual((policy.told, chosen(policy, NOTHING)), (("choices", (0,)), name(0, 0)))

    def test_first_gap(self):
        self.assertEqual(chosen(FirstGap(), NOTHING), name(0, 0))
        self.assertEqual(chosen(FirstGap(), with_names(STORE, NOTHING, [name(0, 0)])), name(0, 2))
        self.assertEqual(chosen(FirstGap(), with_names(STORE, NOTHING, [name(1, 0)])), name(0, 1))
        self.assertIsNone(chosen(FirstGap(), with_names(STORE, NOTHING, [name(0, 0), name(0, 2)])))

    def test_cheapest(self):
        self.assertEqual(chosen(Cheapest(), NOTHING), name(0, 0))
        known = with_names(STORE, NOTHING, [name(0, 0)])
        self.assertEqual(chosen(Cheapest(), known), name(1, 2))
        self.assertEqual(chosen(Cheapest(), with_names(STORE, NOTHING, [name(1, 0)])), name(0, 1))
        self.assertEqual(chosen(Cheapest(), with_names(STORE, known, [name(1, 0)])), name(0, 3))
        self.assertIsNone(chosen(Cheapest(), all_known(STORE)))

    def test_cheapest_counts_pages_of_the_index_alone(self):
        """Pages of other layers and tables do not count."""
        store = Store([Table("s", [laid_line("----", "0/1/2/3")]),
                       Table("t", [laid_line("----", "0/1/2/3", "0/1/2/3"), laid_line("----", "0/1/2/3", "0/1/2/3")])])
        known = with_names(store, Known(store.shape), [("t", 0, 0, (0,)), ("t", 1, 1, (1,)), ("t", 1, 1, (2,)),
                                                       ("s", 0, 0, (0,)), ("s", 0, 0, (1,)), ("s", 0, 0, (2,))])
        self.assertEqual(chosen(Cheapest(), known), ("t", 1, 0, (0,)))
        self.assertEqual(chosen(Cheapest(), with_names(store, known, [("t", 1, 0, (0,))])), ("t", 0, 1, (1,)))
        known = with_names(store, known, [("t", 1, 0, (0,)), ("t", 0, 1, (1,))])
        # row 1 is known by now, and of both indexes of layer 0 one page is
        self.assertEqual(chosen(Cheapest(), known), ("t", 0, 0, (2,)))

    def test_everything(self):
        known = NOTHING.twin()
        for place in (name(0, 0), name(0, 2), name(1, 0), name(1, 1)):
            self.assertEqual(chosen(Everything(), known), place)
            known.add(place[:3] + (STORE.read(*place),))
        self.assertIsNone(chosen(Everything(), known))

    def test_in_rounds(self):
        policy = InRounds()
        self.assertEqual(policy.waiting, ())
        known = NOTHING.twin()
        self.assertEqual(chosen(policy, known), name(0, 0))
        self.assertEqual(policy.waiting, (name(0, 0), name(1, 0)))
        self.assertEqual(chosen(policy, known), name(0, 0))
        known.add(("t", 0, 0, STORE.read("t", 0, 0, (0,))))
        self.assertEqual(chosen(policy, known), name(1, 0))
        self.assertEqual(policy.waiting, (name(1, 0),))
        known.add(("t", 0, 1, STORE.read("t", 0, 1, (0,))))
        self.assertEqual(chosen(policy, known), name(0, 3))
        self.assertEqual(policy.waiting, (name(0, 3), name(1, 3)))
        # the answer is determined, but the round goes on
        known.add(("t", 0, 0, STORE.read("t", 0, 0, (2,))))
        self.assertEqual(chosen(policy, known), name(1, 3))
        known.add(("t", 0, 1, STORE.read("t", 0, 1, (1,))))
        self.assertIsNone(chosen(policy, known))
        self.assertEqual(policy.waiting, ())

    def test_in_rounds_pages_known_elsewhere(self):
        policy = InRounds()
        chosen(policy, NOTHING)
        known = with_names(STORE, NOTHING, [name(1, 0)])
        self.assertEqual(chosen(policy, known), name(0, 0))
        self.assertEqual(policy.waiting, (name(0, 0),))
        self.assertEqual(chosen(policy, with_names(STORE, known, [name(0, 0)])), name(0, 3))
        policy = InRounds()
        chosen(policy, NOTHING)
        self.assertIsNone(chosen(policy, all_known(STORE)))
        self.assertEqual(policy.waiting, ())

    def test_choosing_changes_nothing_else(self):
        for told in TOLDS:
            policy = policy_of(told)
            for known in (NOTHING, with_names(STORE, NOTHING, [name(0, 0)]), all_known(STORE)):
                before = copy.deepcopy((ALL, known))
                policy.choose(ALL, known, 0)
                self.assertEqual((ALL, known), before)


class TestPolicyOf(unittest.TestCase):
    def test_right(self):
        classes = (Policy, Choices, Choices, FirstGap, Cheapest, Everything, InRounds)
        for told, made in zip(TOLDS, classes):
            for given in (told, list(told), [told[0]] + [list(part) for part in told[1:]]):
                policy = policy_of(given)
                self.assertIs(type(policy), made)
                self.assertEqual(policy.told, told)
                self.assertIsInstance(policy, Policy)
                self.assertTrue(only_tuples(policy.told))
        self.assertIsNot(policy_of(("rounds",)), policy_of(("rounds",)))

    def test_wrong(self):
        wrong = no_sequences() + [(), ("",), ("choices",), ("nothing",), ("none", ()), ("gap", ()), ("rounds", (), ()),
                                  ("choices", (), ()), ("whole", 1), ("cheap", None), (("none",),), (None,), (3,), ([],),
                                  Policy(), FirstGap(), ("choices", "ab"), ("gaps",), ("None",), (Odd(),), ("choices", ((),))]
        wrong += [("choices", thing) for thing in no_sequences()]
        wrong += [("choices", (1, thing)) for thing in no_integers()]
        for told in wrong:
            self.assertEqual(raised(policy_of, told), ("BadPolicy",), told)

    def test_equal(self):
        for at, one in enumerate(TOLDS):
            for two, other in enumerate(TOLDS):
                self.assertEqual(policy_of(one) == policy_of(other), at == two, (one, other))
            self.assertFalse(policy_of(one) == one)
            self.assertFalse(policy_of(one) == None)  # noqa
        one, other = InRounds(), InRounds()
        chosen(one, NOTHING)
        self.assertTrue(one == other)
        self.assertFalse(Choices([1]) == Choices([1, 1]))


class Noting:
    """A policy of the tests' own: reads the rows told, and notes what it is asked."""

    def __init__(self, reads):
        self.reads = list(reads)
        self.noted = []

    def choose(self, question, known, turn):
        self.noted.append((question, known.names, turn))
        return self.reads[turn] if turn < len(self.reads) else None


class TestRunPolicy(unittest.TestCase):
    def run_on(self, policy, known=NOTHING, question=ALL):
        return unchanged(self, run_policy, policy, question, STORE, known)

    def test_by_hand(self):
        both = ((1,), (2,))
        self.assertEqual(self.run_on(Policy()), Log((), (), ()))
        self.assertEqual(self.run_on(Policy(), all_known(STORE)), Log((), (), both))
        self.assertEqual(self.run_on(Choices([7, 0, 4])), Log((name(1, 3), name(0, 0)), (name(1, 1), name(0, 0)), ((1,),)))
        self.assertEqual(self.run_on(FirstGap()), Log((name(0, 0), name(0, 2)), (name(0, 0), name(0, 2)), both))
        self.assertEqual(self.run_on(Cheapest()), Log((name(0, 0), name(1, 2), name(0, 3)),
                                                      (name(0, 0), name(1, 0), name(0, 2)), both))
        self.assertEqual(self.run_on(Everything()), Log((name(0, 0), name(0, 2), name(1, 0), name(1, 1)),
                                                        (name(0, 0), name(0, 2), name(1, 0), name(1, 1)), both))
        self.assertEqual(self.run_on(InRounds()), Log((name(0, 0), name(1, 0), name(0, 3), name(1, 3)),
                                                      (name(0, 0), name(1, 0), name(0, 2), name(1, 1)), both))

    def test_turns(self):
        policy = Noting([name(1, 3), name(0, 1)])
        known = with_names(STORE, NOTHING, [name(0, 2)])
        told = run_policy(policy, ALL, STORE, known)
        self.assertEqual(policy.noted, [(ALL, (name(0, 2),), 0), (ALL, (name(0, 2), name(1, 1)), 1),
                                        (ALL, (name(0, 0), name(0, 2), name(1, 1)), 2)])
        self.assertEqual(told, Log((name(1, 3), name(0, 1)), (name(1, 1), name(0, 0)), ((1,), (2,))))
        self.assertEqual(known.names, (name(0, 2),))

    def test_log(self):
        told = Log((name(0, 1),), (name(0, 0),), ())
        self.assertEqual((told.reads, told.gained, told.answer), ((name(0, 1),), (name(0, 0),), ()))
        self.assertTrue(told == Log((name(0, 1),), (name(0, 0),), ()))
        for other in (Log((), (name(0, 0),), ()), Log((name(0, 1),), (), ()), Log((name(0, 1),), (name(0, 0),), None), None):
            self.assertFalse(told == other)

    def test_random(self):
        """Each run ends, twice alike, with unlike pages that were not known; a careful policy is right."""
        for chance, question, store, known in small_stores(193, 80):
            told = chance.choice(TOLDS + (("choices", tuple(chance.randint(-50, 50) for _ in range(9))),))
            log = run_policy(policy_of(told), question, store, known)
            self.assertEqual(log, run_policy(policy_of(told), question, store, known))
            self.assertEqual(log.gained, tuple(store.place_of(*read) for read in log.reads))
            self.assertEqual(len(set(log.gained) | set(known.names)), len(log.gained) + known.many)
            now = with_names(store, known, log.gained)
            self.assertEqual(log.answer, said_answer(question, now))
            self.assertTrue(only_tuples((log.reads, log.gained)))
            if told[0] not in ("none", "choices"):
                self.assertTrue(is_right(question, store, log.answer))
                self.assertEqual(next_round(question, now), ())

    def test_foes(self):
        """[15.1]: an answer said with fewer than M pages read in some block is wrong in some store."""
        chance = seeded(194)
        tables = (("r", (8,)), ("s", (8,)))
        formula = ("and", (("row", "r", (A,)), ("not", ("row", "s", (A,)))))
        early = 0
        for at in range(60):
            kind = (("all",), ("count",), ("first", 2, (1,), ()), ("sum", (3,)))[at % 4]
            foe = Foe(Question(tables, (8,), formula, kind), (1, chance.choice([1, 2])), blocks=chance.choice([1, 2]))
            numbers = [chance.randrange(40) for _ in range(chance.randrange(8))]
            told = chance.choice(TOLDS[3:] + (("choices", numbers),) * 6)
            log = run_policy(policy_of(told), foe.question, foe, Known(foe.shape))
            now = foe.now_store()
            known = with_names(now, Known(now.shape), log.gained)
            pages = [0] * foe.blocks
            for _, _, _, row in log.gained:
                pages[min(row[0] // foe.factor, foe.blocks - 1)] += 1
            foil = find_foil(foe.question, now, known, log.answer)
            if min(pages) < foe.factor:
                early += 1
                self.assertIsNotNone(foil)
            if told[0] != "choices":
                self.assertIsNone(foil)
        self.assertGreater(early, 10)


if __name__ == "__main__":
    unittest.main()
