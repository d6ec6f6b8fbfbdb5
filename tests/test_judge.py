"""Tests of fewfetches.judge: 11.3, 11.6."""

import unittest

from fewfetches.boxes import Box, join_along, whole_box
from fewfetches.deciding import decided
from fewfetches.judge import judge_paper, lean_paper
from fewfetches.kinds import answer_of, group_of, is_ahead, is_right
from fewfetches.knowledge import Known
from fewfetches.papers import Paper, paper_names, paper_of
from fewfetches.questions import Question
from fewfetches.relevant import determined
from tests.helpers import Odd, only_tuples, page_of, points_in, raised, rows_of, seeded, unchanged
from tests.makers import WORDS, filled_store, plain_rows, random_question, random_store, some_known

A = ("var", 0)
ROW = ("row", "t", (A,))
SHAPE = (("t", (4,), (1,)),)


def made(kind, formula=ROW, widths=(4,)):
    return Question((("t", (4,)),), widths, formula, kind)


def named(*rows):
    return tuple(("t", 0, 0, (row,)) for row in rows)


# pages 0: put, 1: bare, 2 and 3 together: 2 bare, 3 put
KNOWN = Known(SHAPE, [("t", 0, 0, page_of([(0,)], [((0,), "put")])), ("t", 0, 0, page_of([(1,)])),
                      ("t", 0, 0, page_of([(2,), (3,)], [((3,), "put")]))])
ALL = made(("all",))
FIRST = made(("first", 1, (0,), ()))
ZERO, ONE, TWO, THREE = [Box((at,), (at + 1,)) for at in range(4)]
GOOD = [("answer", (0,), named(0)), ("answer", (3,), named(2)), ("false", ONE, named(1)), ("false", TWO, named(2)),
        ("join", 0, 2, 0), ("join", 3, 1, 0), ("join", 4, 5, 0)]
ANSWER = ((0,), (3,))


def is_integer(thing):
    return type(thing) is int


def plain_line_word(question, line, number, known, boxes, answers):
    """The first word of [11.3] for a line, by its words; answers are the points of the earlier "answer" lines."""
    widths = question.widths
    if not isinstance(line, (list, tuple)) or not line or line[0] not in ("false", "answer", "behind", "join"):
        return "line"
    rest = line[1:]
    form = {"false": 2, "answer": 2, "behind": 1, "join": 3}[line[0]]
    if len(rest) != form:
        return "line"
    if line[0] in ("false", "behind") and not isinstance(rest[0], Box):
        return "line"
    if line[0] == "answer" and not (isinstance(rest[0], (list, tuple)) and all(is_integer(item) for item in rest[0])):
        return "line"
    if line[0] in ("false", "answer") and not isinstance(rest[1], (list, tuple)):
        return "line"
    if line[0] == "join" and not all(is_integer(item) for item in rest):
        return "line"
    points = None
    if line[0] in ("false", "behind"):
        points = points_in(rest[0].lows, rest[0].highs)
    if line[0] == "answer":
        points = [tuple(rest[0])]
    if points is not None and not set(points) <= set(rows_of(widths)):
        return "box"
    if line[0] in ("false", "answer"):
        for name in rest[1]:
            if raised(known.page, name) is not None:
                return "page"
        few = known.only(rest[1])
        if any(decided(question, few, point) is not (line[0] == "answer") for point in points):
            return line[0]
    if line[0] == "behind":
        if question.kind[0] != "first":
            return "behind"
        for point in points:
            ahead = {other for other in answers if group_of(question, other) == group_of(question, point)
                     and is_ahead(question, other, point)}
            if len(ahead) < question.kind[1]:
                return "behind"
    if line[0] == "join":
        one, other, column = rest
        if not (0 <= one < number and 0 <= other < number and 0 <= column < len(widths)):
            return "join"
        if join_along(boxes[one], boxes[other], column) is None:
            return "join"
    return None


def plain_judge(question, paper, known):
    boxes, answers = [], []
    for number, line in enumerate(paper.lines):
        word = plain_line_word(question, line, number, known, boxes, answers)
        if word is not None:
            return number, word
        if line[0] == "answer":
            answers.append(tuple(line[1]))
            boxes.append(Box(line[1], [value + 1 for value in line[1]]))
        elif line[0] == "join":
            boxes.append(join_along(boxes[line[1]], boxes[line[2]], line[3]))
        else:
            boxes.append(line[1])
    if not (question.kind[0] == "any" and answers):
        if not boxes or boxes[-1] != whole_box(question.widths):
            return len(paper.lines), "whole"
    if question.kind[0] == "any" and answers:
        right = paper.answer in answers
    else:
        right = answer_of(question, answers) == paper.answer
    return None if right else (len(paper.lines), "result")


class TestJudge(unittest.TestCase):
    def check(self, lines, fault, answer=ANSWER, question=ALL, known=KNOWN):
        paper = Paper(lines, answer)
        self.assertEqual(unchanged(self, judge_paper, question, paper, known), fault)
        self.assertEqual(plain_judge(question, paper, known), fault)

    def test_taken(self):
        self.check(GOOD, None)
        self.check([list(line) for line in GOOD], None)
        self.check([["answer", [0], list(named(0))], ("answer", [3], named(2, 0, 2))] + GOOD[2:], None)
        # lines that are left unused, and lines that stand twice
        self.check(GOOD[:4] + [("false", ONE, named(2, 1))] + GOOD[4:], (8, "whole"))
        self.check(GOOD[:4] + GOOD[:1] + [("join", 4, 2, 0), ("join", 3, 1, 0), ("join", 5, 6, 0)], None)
        self.check(GOOD + GOOD[6:], None)

    def test_no_line(self):
        odd = [None, True, 3, "false", "join", (), [], ("false",), ("odd", 1, 2), Odd(), {}, {"false"}, ("false", ONE), ("behind",),
               ("false", ONE, named(1), 1), ("false", ((1,), (2,)), named(1)), ("false", (1,), named(1)), ("false", ONE, None),
               ("false", ONE, "ab"), ("false", ONE, named(1)[0][0]), ("false", ONE, {named(1)[0]: 1}), ("answer", (0,)),
               ("answer", 0, named(0)), ("answer", ZERO, named(0)), ("answer", (False,), named(0)), ("answer", (0.0,), named(0)),
               ("answer", ("a",), named(0)), ("answer", "", named(0)), ("answer", (0,), None), ("answer", (0,), named(0), 0),
               ("behind", ONE, ()), ("behind", (1,)), ("behind", None), ("join", 0, 1), ("join", 0, 1, 0, 0), ("join", False, 1, 0),
               ("join", 0, True, 0), ("join", 0, 1, False), ("join", 0, 1, None), ("join", 0.0, 1, 0), ("join", "a", 1, 0),
               (["false"], ONE, named(1)), (None, None), (("join",), 0, 1, 0), ("False", ONE, named(1)), [["join", 0, 1, 0]]]
        for thing in odd:
            self.check([thing], (0, "line"))
            self.check(GOOD[:2] + [thing, None] + GOOD[2:], (2, "line"))

    def test_box(self):
        for box in (Box((0,), (5,)), Box((4,), (5,)), Box((0, 0), (1, 1)), Box((), ()), Box((60,), (64,))):
            self.check(GOOD[:1] + [("false", box, ())] + GOOD, (1, "box"))
            self.check(GOOD[:1] + [("behind", box)] + GOOD, (1, "box"))
            self.check([("behind", box)], (0, "box"), (), made(("first", 0, (0,), ())))
            # the box is looked at ahead of the names
            self.check([("false", box, (None,))], (0, "box"))
        for point in ((4,), (-1,), (), (0, 0), (64,), (10 ** 30,)):
            self.check(GOOD[:1] + [("answer", point, named(0))] + GOOD, (1, "box"))
            self.check([("answer", list(point), (None,))], (0, "box"))

    def test_page(self):
        wrong = [("t", 0, 0, (3,)), ("t", False, 0, (0,)), ("t", 0, False, (0,)), ("t", 0, 0, (False,)), ["t", 0, 0, (0,)],
                 ("t", 0, 0, [0]), ("s", 0, 0, (0,)), ("t", 1, 0, (0,)), ("t", 0, 1, (0,)), None, 3, (), ("t", 0, 0), Odd(), {}]
        for name in wrong:
            self.check([GOOD[0], ("answer", (3,), (name,))] + GOOD[2:], (1, "page"))
            self.check([GOOD[0], ("answer", (3,), named(2) + (name,))] + GOOD[2:], (1, "page"))
            self.check(GOOD[:2] + [("false", ONE, (name,) + named(1))] + GOOD[3:], (2, "page"))
            # the names are looked at ahead of what they decide
            self.check([("answer", (1,), (name,))], (0, "page"))

    def test_false(self):
        for box, names in ((ONE, ()), (ONE, named(0, 2)), (ZERO, named(0)), (Box((1,), (3,)), named(1)), (Box((1,), (3,)), named(2)),
                           (Box((0,), (2,)), named(0, 1, 2)), (Box((2,), (4,)), named(0, 1, 2)), (THREE, named(2))):
            self.check(GOOD[:1] + [("false", box, names)], (1, "false"))
        self.check([("false", Box((1,), (3,)), named(1, 2))], (1, "whole"))

    def test_answer(self):
        for point, names in (((0,), ()), ((0,), named(1, 2)), ((1,), named(1)), ((2,), named(0, 1, 2)), ((3,), named(0, 1))):
            self.check(GOOD[:1] + [("answer", point, names)], (1, "answer"))

    def test_behind(self):
        rest = Box((1,), (4,))
        lines = [("answer", (0,), named(0)), ("behind", rest), ("join", 0, 1, 0)]
        self.check(lines, None, ((0,),), FIRST)
        self.check(lines, (1, "behind"), ((0,),), ALL)
        self.check(lines, (1, "behind"), 1, made(("count",)))
        self.check(lines, (1, "behind"), (0,), made(("any",)))
        self.check(lines, (1, "behind"), ((0,),), made(("first", 2, (0,), ())))
        self.check(lines, (1, "behind"), ((0,),), made(("first", 1, (1,), ())))
        self.check([lines[0], ("behind", whole_box((4,)))], (1, "behind"), ((0,),), FIRST)
        self.check([("behind", rest), lines[0], ("join", 0, 1, 0)], (0, "behind"), ((0,),), FIRST)
        # one answer that stands twice is one point
        twice = made(("first", 2, (0,), ()))
        self.check([lines[0], lines[0], ("behind", rest)], (2, "behind"), ((0,),), twice)
        lines = [("answer", [0], named(0)), ("answer", (3,), named(2)), ("false", Box((1,), (3,)), named(1, 2)),
                 ("join", 0, 2, 0), ("join", 3, 1, 0)]
        self.check(lines, None, ((0,), (3,)), twice)
        self.check([("behind", whole_box((4,)))], None, (), made(("first", 0, (0,), ())))

    def test_behind_answers_in_any_order(self):
        lines = [("answer", (3,), named(2)), ("answer", (0,), named(0)), ("behind", Box((1,), (3,))), ("join", 1, 2, 0),
                 ("join", 3, 0, 0)]
        self.check(lines, None, ((0,),), FIRST)
        self.check(lines, (2, "behind"), ((0,),), made(("first", 2, (0,), ())))
        self.check(lines, None, ((3,),), made(("first", 1, (1,), ())))

    def test_behind_in_groups(self):
        question = Question((("t", (4,)),), (2, 2), ("row", "t", (("num", 0),)), ("first", 1, (0, 0), (1,)))
        lines = [("answer", (0, 0), named(0)), ("answer", (0, 1), named(0)), ("behind", Box((1, 0), (2, 2))), ("join", 0, 1, 1),
                 ("join", 3, 2, 0)]
        self.check(lines, None, ((0, 0), (0, 1)), question)
        self.check(lines[:1] + lines[2:], (1, "behind"), ((0, 0),), question)
        self.check(lines[:1] + [("behind", Box((1, 0), (2, 1)))], (2, "whole"), ((0, 0),), question)
        self.check(lines[:1] + [("behind", Box((0, 1), (1, 2)))], (1, "behind"), ((0, 0),), question)

    def test_join(self):
        for line in (("join", 0, 1, 0), ("join", 0, 4, 0), ("join", 4, 0, 0), ("join", -1, 0, 0), ("join", 0, -1, 0), ("join", 9, 2, 0),
                     ("join", 0, 2, 1), ("join", 0, 2, -1), ("join", 0, 2, 9), ("join", 1, 2, 0), ("join", 10 ** 30, 0, 0)):
            self.check(GOOD[:4] + [line], (4, "join"))
        self.check([("join", 0, 0, 0)], (0, "join"))
        self.check([GOOD[0], ("join", 0, 0, 0)], (2, "whole"))

    def test_whole(self):
        self.check([], (0, "whole"), ())
        self.check(GOOD[:6], (6, "whole"))
        self.check(GOOD[:4], (4, "whole"), None)
        self.check(GOOD + [GOOD[0]], (8, "whole"))
        self.check([], (0, "whole"), None, made(("any",)))

    def test_result(self):
        for answer in (((0,),), (), ((3,), (0,)), [(0,), (3,)], ((0,), [3]), ([0], [3]), None, 2, ((0,), (3,), (3,))):
            self.check(GOOD, (7, "result"), answer)
        self.check(GOOD, None, 2, made(("count",)))
        for answer in (1, 3, None, ANSWER, "2"):
            self.check(GOOD, (7, "result"), answer, made(("count",)))
        self.check(GOOD, None, 8, made(("sum", (2,))))
        self.check(GOOD, (7, "result"), 7, made(("sum", (2,))))
        self.check(GOOD, None, ((3,), (0,)), made(("first", 2, (1,), ())))
        self.check(GOOD, None, ((3,),), made(("first", 1, (1,), ())))
        self.check(GOOD, (7, "result"), ANSWER, made(("first", 2, (1,), ())))

    def test_any(self):
        question = made(("any",))
        for answer in ((0,), (3,)):
            self.check(GOOD, None, answer, question)
            self.check(GOOD[:2], None, answer, question)
        for answer in ((1,), None, [0], 0, ((0,),), ()):
            self.check(GOOD[:2], (2, "result"), answer, question)
        self.check([("false", ONE, named(1)), GOOD[1], ("false", TWO, named(2))], None, (3,), question)
        bare = Known(SHAPE, [("t", 0, 0, page_of(rows_of((4,))))])
        self.check([("false", whole_box((4,)), named(0))], None, None, question, bare)
        self.check([("false", whole_box((4,)), named(0))], (1, "result"), (0,), question, bare)
        self.check([("false", Box((0,), (3,)), named(0))], (1, "whole"), None, question, bare)

    def test_no_variables(self):
        question = made(("all",), ("row", "t", (("num", 3),)), ())
        self.check([("answer", (), named(2))], None, ((),), question)
        self.check([("answer", [], list(named(2)))], None, ((),), question)
        self.check([("answer", (), named(0))], (0, "answer"), ((),), question)
        self.check([("false", Box((), ()), named(2))], (0, "false"), (), question)
        self.check([("answer", (0,), named(2))], (0, "box"), ((),), question)
        self.check([("answer", (), named(2)), ("join", 0, 0, 0)], (1, "join"), ((),), question)
        question = made(("first", 1, (), ()), ("row", "t", (("num", 3),)), ())
        self.check([("answer", (), named(2))], None, ((),), question)
        self.check([("answer", (), named(2)), ("behind", Box((), ()))], (1, "behind"), ((),), question)

    def test_more_known_pages_make_no_fault(self):
        few = KNOWN.only(named(0, 2))
        self.check([GOOD[0], ("answer", (3,), named(2))], (2, "whole"), ANSWER, ALL, few)
        self.check([("false", ONE, named(0))], (0, "false"))
        self.check([("false", ONE, named(1))], (0, "page"), ANSWER, ALL, few)

    def test_spoilt_papers(self):
        chance = seeded(113)
        faults = {}
        for at in range(300):
            question = random_question(chance, WORDS[at % 5])
            store = random_store(chance, question)
            known = some_known(chance, store, chance.choice([0.8, 0.95, 1]))
            if determined(question, known) is None:
                continue
            paper = paper_of(question, known)
            self.assertIsNone(plain_judge(question, paper, known))
            for _ in range(6):
                lines, answer = spoilt(chance, question, list(paper.lines), paper.answer, known)
                fault = judge_paper(question, Paper(lines, answer), known)
                self.assertEqual(fault, plain_judge(question, Paper(lines, answer), known), (lines, answer))
                word = None if fault is None else fault[1]
                faults[word] = faults.get(word, 0) + 1
                if fault is None:
                    self.assertTrue(is_right(question, store, answer))
        self.assertEqual(set(faults), {None, "line", "box", "page", "false", "answer", "behind", "join", "whole", "result"})

    def test_taken_papers_are_right(self):
        chance = seeded(114)
        for at in range(100):
            question = random_question(chance, WORDS[at % 5])
            store = random_store(chance, question)
            known = some_known(chance, store, 0.9)
            if determined(question, known) is not None:
                paper = paper_of(question, known)
                few = known.only(paper_names(paper))
                rows = set().union(*[plain_rows(question.formula, point) for point in rows_of(question.widths)])
                for _ in range(3):
                    other = filled_store(store, few, {row: chance.random() < 0.5 for row in rows})
                    self.assertTrue(is_right(question, other, paper.answer))


def spoilt(chance, question, lines, answer, known):
    """The lines and the answer, spoilt at one place."""
    choice = chance.randrange(12)
    at = chance.randrange(len(lines)) if lines else 0
    if choice == 0:
        return lines, chance.choice([None, 0, 1, (), ((0,),), [answer], (answer,), list(rows_of(question.widths))])
    if not lines:
        return [("join", 0, 0, 0)], answer
    line = list(lines[at])
    other = chance.randrange(len(lines))
    if choice == 1:
        return lines[:at] + lines[at + 1:], answer
    if choice == 2:
        return lines[:at] + [lines[at]] + lines[at:], answer
    if choice == 3:
        lines[at], lines[other] = lines[other], lines[at]
        return lines, answer
    if choice == 4 and line[0] in ("false", "behind"):
        lows = [chance.randrange(width) for width in question.widths]
        line[1] = Box(lows, [chance.randint(low + 1, width + (chance.random() < 0.1))
                             for low, width in zip(lows, question.widths)])
    elif choice == 5 and line[0] in ("false", "answer"):
        line[2] = chance.choice([line[2][1:], line[2][:-1], line[2] + known.names[:1], line[2] + (("t", 0, 0, (9,)),), list(line[2])])
    elif choice == 6 and line[0] in ("false", "answer"):
        line[0] = "answer" if line[0] == "false" else "false"
        if chance.random() < 0.8:
            line[1] = line[1].lows if line[0] == "answer" else Box(line[1], [value + 1 for value in line[1]])
    elif choice == 7 and line[0] == "join":
        line[chance.randint(1, 3)] = chance.choice([True, False, -1, 0, 1, at, at - 1, 99])
    elif choice == 8 and line[0] == "answer":
        line[1] = chance.choice([list(line[1]), tuple(value + 1 for value in line[1]), line[1] + (0,), tuple(map(bool, line[1]))])
    elif choice == 9:
        line = chance.choice([None, [], "join", ("join", at), ("behind", whole_box(question.widths)), ["false", None, ()]])
    elif choice == 10:
        return lines + [lines[other]], answer
    elif choice == 11:
        return lines[:at], answer
    return lines[:at] + [tuple(line) if isinstance(line, list) and chance.random() < 0.5 else line] + lines[at + 1:], answer


class TestLean(unittest.TestCase):
    def test_by_hand(self):
        lines = [["answer", [0], list(named(2, 1, 0, 1))], ("answer", (3,), named(2)), ["false", ONE, named(2, 1, 1)],
                 ("false", TWO, named(0, 2)), ["join", 0, 2, 0]] + GOOD[5:]
        self.assertEqual(lean_paper(ALL, Paper(lines, ANSWER), KNOWN), Paper(GOOD, ANSWER))
        self.assertEqual(unchanged(self, lean_paper, ALL, Paper(GOOD, ANSWER), KNOWN), Paper(GOOD, ANSWER))
        lines = [("answer", (0,), named(0, 1)), ["behind", Box((1,), (4,))], ("join", 0, 1, 0)]
        self.assertEqual(lean_paper(FIRST, Paper(lines, ((0,),)), KNOWN).lines,
                         (("answer", (0,), named(0)), ("behind", Box((1,), (4,))), ("join", 0, 1, 0)))

    def test_goes_from_the_last_name(self):
        """Each of two pages of two indexes, or of two rows, is enough: the first one stays."""
        shape = (("t", (4,), (2,)),)
        known = Known(shape, [("t", 0, 0, page_of([(0,)])), ("t", 0, 1, page_of([(0,), (1,)]))])
        names = (("t", 0, 0, (0,)), ("t", 0, 1, (0,)))
        question = Question((("t", (4,)),), (1,), ROW, ("all",))
        lean = lean_paper(question, Paper([("false", Box((0,), (1,)), names)], ()), known)
        self.assertEqual(lean.lines, (("false", Box((0,), (1,)), names[:1]),))
        both = Question((("t", (4,)),), (1,), ("and", (ROW, ("row", "t", (("num", 1),)))), ("all",))
        lean = lean_paper(both, Paper([("false", Box((0,), (1,)), names)], ()), known)
        self.assertEqual(lean.lines, (("false", Box((0,), (1,)), names[:1]),))
        # of a greater box the second is needed, and the first is not
        wide = Question((("t", (4,)),), (2,), ROW, ("all",))
        lean = lean_paper(wide, Paper([("false", Box((0,), (2,)), names)], ()), known)
        self.assertEqual(lean.lines, (("false", Box((0,), (2,)), names[1:]),))

    def test_names_that_nothing_needs(self):
        question = made(("all",), ("less", A, ("num", 0)))
        lean = lean_paper(question, Paper([("false", whole_box((4,)), named(0, 1, 2))], ()), KNOWN)
        self.assertEqual(lean.lines, (("false", whole_box((4,)), ()),))

    def test_wrong_paper(self):
        self.assertEqual(raised(lean_paper, ALL, Paper([], ()), KNOWN), ("BadPaper", 0, "whole"))
        self.assertEqual(raised(lean_paper, ALL, Paper(GOOD, ()), KNOWN), ("BadPaper", 7, "result"))
        self.assertEqual(raised(lean_paper, ALL, Paper(GOOD[:3] + [None], ANSWER), KNOWN), ("BadPaper", 3, "line"))

    def test_random(self):
        chance = seeded(116)
        for at in range(150):
            question = random_question(chance, WORDS[at % 5])
            store = random_store(chance, question)
            known = some_known(chance, store, chance.choice([0.7, 0.9, 1]))
            if determined(question, known) is None:
                continue
            paper = fattened(chance, paper_of(question, known), known)
            self.assertIsNone(judge_paper(question, paper, known))
            lean = unchanged(self, lean_paper, question, paper, known)
            self.assertEqual(lean, plain_lean(question, paper, known))
            self.assertTrue(only_tuples(lean.lines))
            self.assertIsNone(judge_paper(question, lean, known))
            self.assertEqual(lean_paper(question, lean, known), lean)
            for number, line in enumerate(lean.lines):
                if line[0] in ("false", "answer"):
                    for name in line[2]:
                        fewer = (line[0], line[1], tuple(other for other in line[2] if other != name))
                        spoilt_paper = Paper(lean.lines[:number] + (fewer,) + lean.lines[number + 1:], lean.answer)
                        self.assertEqual(judge_paper(question, spoilt_paper, known), (number, line[0]))


def fattened(chance, paper, known):
    """The paper with more names than it needs, in any order, and lists for tuples."""
    lines = []
    for line in paper.lines:
        if line[0] in ("false", "answer"):
            names = list(line[2]) + [name for name in known.names if chance.random() < 0.4]
            chance.shuffle(names)
            line = [line[0], list(line[1]) if line[0] == "answer" else line[1], names]
        lines.append(line)
    return Paper(lines, paper.answer)


def plain_lean(question, paper, known):
    """[11.6] by its words, with the judge's word for each line."""
    lines = []
    for line in paper.lines:
        if line[0] in ("false", "answer"):
            names = sorted(set(line[2]))
            for name in names[::-1]:
                fewer = [other for other in names if other != name]
                if plain_line_word(question, (line[0], line[1], fewer), 0, known, [], []) is None:
                    names = fewer
            line = (line[0], tuple(line[1]) if line[0] == "answer" else line[1], tuple(names))
        lines.append(tuple(line))
    return Paper(lines, paper.answer)


if __name__ == "__main__":
    unittest.main()
