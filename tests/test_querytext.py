"""Tests of fewfetches.querytext: 2.3 to 2.8."""

import unittest

from fewfetches.questions import Question
from fewfetches.querytext import print_query, read_query
from tests.helpers import Odd, only_tuples, raised, seeded, unchanged
from tests.makers import random_question

TABLES = (("every", (4,)), ("r", (4, 4)), ("s", (4,)), ("where", (4, 4, 4)))
A, B, C = ("var", 0), ("var", 1), ("var", 2)
YES, NO = ("and", ()), ("or", ())
P, Q, S = ("same", A, B), ("less", A, ("num", 3)), ("row", "s", (A,))


def read(text):
    return read_query(TABLES, text)


def formula_of(text):
    """The formula behind a head of two variables."""
    return read("for a:4, b:4 all where " + text).formula


def printed(formula, widths=(4, 4), kind=("all",)):
    return print_query(Question(TABLES, widths, formula, kind))


def kind_of(text):
    """The kind of a text between a head of three variables and "where"."""
    return read("for x:4, y:3, z:2 " + text + " where true").kind


class TestReading(unittest.TestCase):
    def test_example(self):
        text = "for a:4, b:3 first 2 by a - 2 b per b where r[a, b] and not s[b, 2]"
        tables = (("r", (4, 3)), ("s", (3, 3)))
        question = Question(tables, (4, 3), ("and", (("row", "r", (A, B)), ("not", ("row", "s", (B, ("num", 2)))))),
                            ("first", 2, (1, -2), (1,)))
        self.assertEqual(unchanged(self, read_query, tables, text), question)
        self.assertEqual(print_query(question), text)

    def test_head(self):
        self.assertEqual(read("all where true").widths, ())
        self.assertEqual(read("for b:4 all where true").widths, (4,))
        question = read("for abcdefghijkl : 4 ,b:3,c:2,d:1,e:1 all where b<abcdefghijkl")
        self.assertEqual((question.widths, question.formula), ((4, 3, 2, 1, 1), ("less", B, A)))

    def test_blanks(self):
        spread = " \n for\na\n:\n 4 \n , b : 3\nfirst  2\nby -2a+b per\nb , a where ( r [ a , 2 ] ) \n "
        dense = "for a:4,b:3first 2by-2a+b per b,a where(r[a,2])"
        question = Question(TABLES, (4, 3), ("row", "r", (A, ("num", 2))), ("first", 2, (-2, 1), (0, 1)))
        self.assertEqual(read(spread), question)
        self.assertEqual(read(dense), question)

    def test_kinds(self):
        table = [("all", ("all",)), ("any", ("any",)), ("count", ("count",)), ("first 0", ("first", 0, (0, 0, 0), ())),
                 ("first 3", ("first", 3, (0, 0, 0), ())), ("first 32768", ("first", 32768, (0, 0, 0), ())),
                 ("first 1 by 0", ("first", 1, (0, 0, 0), ())), ("first 1 by x", ("first", 1, (1, 0, 0), ())),
                 ("first 1 by - x", ("first", 1, (-1, 0, 0), ())), ("first 1 by -2x", ("first", 1, (-2, 0, 0), ())),
                 ("first 1 by z-3x+1000y", ("first", 1, (-3, 1000, 1), ())),
                 ("first 1 by 0 x - 0 y", ("first", 1, (0, 0, 0), ())), ("first 1 by 0y-x", ("first", 1, (-1, 0, 0), ())),
                 ("first 1 per z", ("first", 1, (0, 0, 0), (2,))), ("first 1 per z,x", ("first", 1, (0, 0, 0), (0, 2))),
                 ("first 1 by 0 per x, z, y", ("first", 1, (0, 0, 0), (0, 1, 2))),
                 ("sum 0", ("sum", (0, 0, 0))), ("sum x", ("sum", (1, 0, 0))), ("sum 0x", ("sum", (0, 0, 0))),
                 ("sum 2 z + x", ("sum", (1, 0, 2))), ("sum x+0y+1000z", ("sum", (1, 0, 1000)))]
        for text, kind in table:
            self.assertEqual(kind_of(text), kind, text)

    def test_plains(self):
        table = [("a = b", P), ("a<3", Q), ("3 < a", ("less", ("num", 3), A)), ("2=3", ("same", ("num", 2), ("num", 3))),
                 ("s[a]", S), ("r[b,0]", ("row", "r", (B, ("num", 0)))), ("true", YES), ("false", NO),
                 ("not true", ("not", YES)), ("not not s[a]", ("not", ("not", S))), ("(s[a])", S), ("((a=b))", P),
                 ("every()", YES), ("some()", NO), ("every(s[a])", ("and", (S,))), ("some(s[a])", ("or", (S,))),
                 ("every(s[a],a=b)", ("and", (S, P))), ("some(a=b,s[a],true)", ("or", (P, S, YES))),
                 ("some(a=b or s[a])", ("or", (("or", (P, S)),))), ("every[a]", ("row", "every", (A,))),
                 ("every ( every [ a ] )", ("and", (("row", "every", (A,)),))),
                 ("where[a, 1, b]", ("row", "where", (A, ("num", 1), B)))]
        for text, formula in table:
            self.assertEqual(formula_of(text), formula, text)

    def test_ands_and_ors(self):
        table = [("a=b and s[a]", ("and", (P, S))), ("a=b or s[a] or true", ("or", (P, S, YES))),
                 ("a=b or s[a] and a<3", ("or", (P, ("and", (S, Q))))), ("a=b and s[a] or a<3", ("or", (("and", (P, S)), Q))),
                 ("(a=b or s[a]) and a<3", ("and", (("or", (P, S)), Q))),
                 ("a=b and (s[a] and a<3)", ("and", (P, ("and", (S, Q))))), ("(a=b or s[a]) or a<3", ("or", (("or", (P, S)), Q))),
                 ("not a=b and s[a]", ("and", (("not", P), S))), ("not (a=b and s[a])", ("not", ("and", (P, S)))),
                 ("not a=b or not s[a]", ("or", (("not", P), ("not", S))))]
        for text, formula in table:
            self.assertEqual(formula_of(text), formula, text)
            self.assertTrue(only_tuples(formula_of(text)))

    def test_names_that_are_key_words(self):
        words = ["for", "all", "any", "count", "sum", "first", "by", "per", "where", "and", "or", "not", "every", "some",
                 "true", "false", "a"]
        for word in words:
            question = read_query([(word, (4,))], "for a:4 all where " + word + "[a] and not " + word + "\n[2]")
            one, other = ("row", word, (A,)), ("row", word, (("num", 2),))
            self.assertEqual(question.formula, ("and", (one, ("not", other))), word)
            self.assertEqual(read_query([(word, (4,))], print_query(question)), question)

    def test_wrong_questions(self):
        table = [("for a:0 all where true", ("widths", 0)), ("for a:4, b:65 all where true", ("widths", 1)),
                 ("for a:64,b:64,c:64 all where true", ("points", 0)), ("for a:4 first 32769 where true", ("kind", 1)),
                 ("for a:4 first 1 by 1001 a where true", ("kind", 2)), ("for a:4 sum 1001 a where true", ("kind", 1)),
                 ("for a:4 sum 999999999 a where true", ("kind", 1)), ("all where x[1]", ("table", 0)),
                 ("all where true and s[1,2]", ("terms", 2)), ("all where s[4]", ("outside", 0)), ("all where 64=1", ("term", 0)),
                 ("all where every(" + ",".join(["true"] * 9) + ")", ("parts", 0)),
                 ("all where " + " and ".join(["true"] * 9), ("parts", 0)),
                 ("all where " + "not " * 12 + "true", ("deep", 12)),
                 ("for f:1,g:1,h:1,i:1,j:1,k:1 all where true", ("widths", 0))]
        for text, told in table:
            self.assertEqual(raised(read, text), ("BadQuestion",) + told, text)
        self.assertEqual(raised(read_query, (), "all where true"), ("BadQuestion", "tables", 0))
        self.assertEqual(raised(read_query, None, "all where x[1]"), ("BadQuestion", "tables", 0))

    def test_text_comes_ahead_of_question(self):
        self.assertEqual(raised(read_query, None, "all where true)"), ("BadText", 14))
        self.assertEqual(raised(read, "for a:99 all where x[1]]"), ("BadText", 23))

    def test_no_string(self):
        for thing in (None, True, 3, b"all where true", ["all"], ("all", "where", "true"), Odd()):
            self.assertEqual(raised(read_query, TABLES, thing), ("BadText", 0))
            self.assertEqual(raised(read_query, None, thing), ("BadText", 0))

    def test_depth(self):
        for word, end in (("(", ")"), ("not ", ""), ("every(", ")"), ("some(", ")"), ("( ", ")"), ("not(", ")")):
            many = 20 if word == "not(" else 40
            self.assertIn(raised(read, "all where " + word * many + "true" + end * many),
                          (None, ("BadQuestion", "deep", 12)), word)
            wrong = "all where " + word * (many + 1) + "true" + end * (many + 1)
            place = 10 + len(word) * many + (word.find("(") if word in ("every(", "some(") else 0)
            self.assertEqual(raised(read, wrong), ("BadText", place), word)
        # those that have ended count no more
        self.assertEqual(read("all where " + "(" * 40 + "s[1]" + ")" * 40 + " and (true)").formula,
                         ("and", (("row", "s", (("num", 1),)), YES)))
        ended = "not true and " * 7 + "(" * 40 + "true" + ")" * 40
        self.assertEqual(read("all where " + ended).formula, ("and", (("not", YES),) * 7 + (YES,)))
        ended = "every(true, some()) and not some(true) and " + "(" * 40 + "true" + ")" * 40
        self.assertEqual(len(read("all where " + ended).formula[1]), 3)
        self.assertEqual(raised(read, "all where " + "(" * 39 + "not (true)" + ")" * 39), ("BadText", 53))
        self.assertEqual(raised(read, "all where " + "(" * 40 + "every()" + ")" * 40), ("BadText", 55))
        self.assertEqual(raised(read, "all where " + "(" * 100000), ("BadText", 50))


# in each text "!" stands where the token begins that can not stand there
FAULTS = r"""
!
  !
 !$
\n!$
!where
!a
!2
!alls where true
!abcdefghijklm
all!
all !
all !true
all !All where true
all where!
all where !$
all where !\ttrue
for!
for !
for !:4
for !4:4
for !for:4 all where true
for !abcdefghijklm:4 all where true
for a !4 all where true
for a!
for a:!
for a: !b all where true
for a:!-4 all where true
for a:!04 all where true
for a:!00 all where true
for a:!1234567890 all where true
for a:4!
for a:4 !b:3 all where true
for a:4,!
for a:4, !all where true
for a:4, !a:3 all where true
for a:4, b:3, !a:3 all where true
for a:4 !for b:3 all where true
for a:4 !a
for a:4 !where true
for a:4 !by a where true
for a:4 all !by a where true
for a:4 all !all where true
for a:4 any !1 where true
for a:4 count !per a where true
for a:4 sum !where true
for a:4 sum!
for a:4 sum !+ a where true
for a:4 sum !- a where true
for a:4 sum a !- a where true
for a:4 sum a !a where true
for a:4 sum a + !a where true
for a:4 sum a + !where true
for a:4 sum 0 !+ a where true
for a:4 sum 0 a + 2 !a where true
for a:4 sum 0 a + 0 !where true
for a:4 sum 0 !b where true
for a:4 sum 1 !where true
for a:4 sum 1 !b where true
for a:4 sum !b where true
for a:4 sum 2 !2 a where true
for a:4 sum !01 a where true
for a:4 sum a !per a where true
for a:4 sum 0 !per a where true
for a:4 first !where true
for a:4 first !a where true
for a:4 first !-1 where true
for a:4 first 3 !3 where true
for a:4 first 3 by !where true
for a:4 first 3 by !per a where true
for a:4 first 3 by !+ a where true
for a:4 first 3 by - !- a where true
for a:4 first 3 by - !where true
for a:4 first 3 by - 0 !where true
for a:4 first 3 by -0 !per a where true
for a:4 first 3 by a + !- a where true
for a:4, b:4 first 3 by a - b - !a where true
for a:4 first 3 by 0 !- a where true
for a:4 first 3 by 0 !by a where true
for a:4 first 3 by a !by a where true
for a:4 first 3 by a!, a where true
for a:4 first 3 per !where true
for a:4 first 3 per !2 a where true
for a:4 first 3 per !b where true
for a:4 first 3 per a !by a where true
for a:4 first 3 per a !per a where true
for a:4 first 3 per a, !where true
for a:4 first 3 per a, !a where true
for a:4 first 3 per a !a where true
for a:4 all where !where
for a:4 all where !and
for a:4 all where !or true
for a:4 all where !for
for a:4 all where !by = a
for a:4 all where !r
for a:4 all where !b = a
for a:4 all where !b
for a:4 all where !)
for a:4 all where !]
for a:4 all where ![a]
for a:4 all where !+
for a:4 all where !- 1 = a
for a:4 all where a!
for a:4 all where a !
for a:4 all where a !a
for a:4 all where a !and true
for a:4 all where a !(
for a:4 all where a =!
for a:4 all where a = !=
for a:4 all where a = !b
for a:4 all where a = !true
for a:4 all where a = !and
for a:4 all where a = 1 != a
for a:4 all where a = 1 !2
for a:4 all where a = !12345678901
for a:4 all where a < !<
for a:4 all where 1 !> a
for a:4 all where 1!
for a:4 all where 1 !and
for a:4 all where 1 ![
for a:4 all where s[!
for a:4 all where s[!]
for a:4 all where s[!b]
for a:4 all where s[!s[a]]
for a:4 all where s[!true]
for a:4 all where s[a!
for a:4 all where s[a !a]
for a:4 all where s[a,!]
for a:4 all where s[a, !,
for a:4 all where s[a !)
for a:4 all where s[a] !s[a]
for a:4 all where s[a] !, s[a]
for a:4 all where s[a] !not s[a]
for a:4 all where s[a] and!
for a:4 all where s[a] and !and
for a:4 all where s[a] or!
for a:4 all where s[a] or !or
for a:4 all where s[a] !)
for a:4 all where s[a] != s[a]
for a:4 all where !s (a)
for a:4 all where not!
for a:4 all where not !and
for a:4 all where not !)
for a:4 all where not s[a] !not
for a:4 all where (!
for a:4 all where (!)
for a:4 all where (s[a]!
for a:4 all where (s[a] !, s[a])
for a:4 all where (s[a] !]
for a:4 all where (a!) and true
for a:4 all where true !true
for a:4 all where true !(
for a:4 all where true != true
for a:4 all where every!
for a:4 all where every !true
for a:4 all where every !)
for a:4 all where every(!
for a:4 all where every(!,
for a:4 all where every(!]
for a:4 all where every(true!
for a:4 all where every(true !true)
for a:4 all where every(true, !)
for a:4 all where every(true,!
for a:4 all where every(true) !(
for a:4 all where some !some
for a:4 all where some() !)
for a:4 all where true !.
for a:4 all where true !where
for a:4 all where true !\t
for a:4 all where true !all
"""


class TestFaults(unittest.TestCase):
    def test_places(self):
        for line in FAULTS.split("\n"):
            if line != "":
                self.check(line.replace("\\t", "\t").replace("\\n", "\n"))
        self.assertEqual(raised(read, ""), ("BadText", 0))

    def check(self, marked):
        place = marked.index("!")
        text = marked[:place] + marked[place + 1:]
        self.assertEqual(raised(read, text), ("BadText", place), marked)

    def test_line_feeds_count_as_signs(self):
        self.assertEqual(raised(read, "\n\nall\n\n"), ("BadText", 7))
        self.assertEqual(raised(read, "\nall\nwhere\nx"), ("BadText", 11))

    def test_signs_that_begin_no_token(self):
        for sign in "\t\r.;!?/*'\"_ABZ{}>@\u00e9\u0663\u00b2\u00a0":
            for text in ("%s", "all%s where true", "all where tru%s", "all where true%s", "all where s[%s1]"):
                place = text.index("%")
                if text == "all where tru%s":
                    self.assertEqual(raised(read, text.replace("%s", sign)), ("BadText", 10), sign)
                else:
                    self.assertEqual(raised(read, text.replace("%s", sign)), ("BadText", place), sign)

    def test_texts_cut_off(self):
        """A text cut off between two tokens fails at its end, but for a table's name without its bracket."""
        tokens = "for a : 4 , b : 3 first 2 by a - 2 b per b where ( r [ a , b ] and not s [ b ] ) or every ( 1 < a )".split()
        complete = {len(tokens)}
        for many in range(len(tokens) + 1):
            text = " ".join(tokens[:many])
            if many in complete:
                self.assertIsNone(raised(read, text))
            elif tokens[:many] and tokens[many - 1] in ("r", "s"):
                self.assertEqual(raised(read, text), ("BadText", len(text) - 1))
            elif many == tokens.index("or"):
                self.assertIsNone(raised(read, text))
            else:
                self.assertEqual(raised(read, text), ("BadText", len(text)), text)

    def test_sign_put_in_anywhere(self):
        text = "for a:4, b:3 first 2 by a - 2 b per b where r[a, b] and not s[b]"
        for at in range(len(text)):
            place = at
            # amid a word it leaves a piece that can not stand there itself
            while place > 0 and text[place - 1].isalpha() and text[at].isalpha():
                place -= 1
            # a table's name needs its bracket at once
            if text[at] == "[":
                place = at - 1
            spoilt = text[:at] + "$" + text[at:]
            self.assertEqual(raised(read, spoilt), ("BadText", place), spoilt)


class TestPrinting(unittest.TestCase):
    def test_formulas(self):
        table = [(P, "a = b"), (Q, "a < 3"), (S, "s[a]"), (("row", "r", (A, ("num", 2))), "r[a, 2]"), (YES, "true"),
                 (NO, "false"), (("not", P), "not a = b"), (("not", ("not", S)), "not not s[a]"), (("and", (S,)), "every(s[a])"),
                 (("or", (S,)), "some(s[a])"), (("and", (YES,)), "every(true)"), (("or", (("or", (P, Q)),)), "some(a = b or a < 3)"),
                 (("and", (("and", (P, Q)),)), "every(a = b and a < 3)"), (("not", ("and", (S,))), "not every(s[a])"),
                 (("not", ("or", (P, Q))), "not (a = b or a < 3)"), (("not", ("and", (P, Q))), "not (a = b and a < 3)"),
                 (("not", YES), "not true"), (("and", (P, Q, S)), "a = b and a < 3 and s[a]"),
                 (("or", (P, Q, S)), "a = b or a < 3 or s[a]"), (("or", (("and", (P, Q)), S)), "a = b and a < 3 or s[a]"),
                 (("and", (("or", (P, Q)), S)), "(a = b or a < 3) and s[a]"),
                 (("and", (P, ("and", (Q, S)))), "a = b and (a < 3 and s[a])"),
                 (("or", (P, ("or", (Q, S)))), "a = b or (a < 3 or s[a])"),
                 (("and", (("or", (P,)), ("and", (Q,)), NO)), "some(a = b) and every(a < 3) and false"),
                 (("and", (("not", ("or", (P, Q))), S)), "not (a = b or a < 3) and s[a]"),
                 (("or", (("not", ("or", (P, Q))), ("and", (("and", (P, Q)), S)))),
                  "not (a = b or a < 3) or (a = b and a < 3) and s[a]"),
                 (("row", "every", (A,)), "every[a]"), (("not", ("row", "every", (A,))), "not every[a]"),
                 (("and", (("or", (("or", (P, Q)),)), S)), "some(a = b or a < 3) and s[a]")]
        for formula, text in table:
            self.assertEqual(printed(formula), "for a:4, b:4 all where " + text)
            self.assertEqual(formula_of(text), formula)

    def test_head(self):
        self.assertEqual(printed(YES, ()), "all where true")
        self.assertEqual(printed(YES, (64,)), "for a:64 all where true")
        self.assertEqual(printed(("same", ("var", 3), ("var", 4)), (1, 2, 3, 4, 5)), "for a:1, b:2, c:3, d:4, e:5 all where d = e")

    def test_kinds(self):
        table = [(("all",), "all"), (("any",), "any"), (("count",), "count"), (("sum", (0, 0)), "sum 0"),
                 (("sum", (1, 0)), "sum a"), (("sum", (0, 2)), "sum 2 b"), (("sum", (1000, 1)), "sum 1000 a + b"),
                 (("first", 0, (0, 0), ()), "first 0"), (("first", 7, (1, 0), ()), "first 7 by a"),
                 (("first", 7, (-1, 0), ()), "first 7 by - a"), (("first", 7, (-2, 1), ()), "first 7 by - 2 a + b"),
                 (("first", 7, (2, -1), ()), "first 7 by 2 a - b"), (("first", 7, (0, -3), (0,)), "first 7 by - 3 b per a"),
                 (("first", 7, (1, -1000), (0, 1)), "first 7 by a - 1000 b per a, b"),
                 (("first", 7, (0, 0), (1,)), "first 7 per b")]
        for kind, text in table:
            self.assertEqual(printed(YES, (4, 4), kind), "for a:4, b:4 " + text + " where true")
            self.assertEqual(read("for a:4, b:4 " + text + " where true").kind, kind)
        self.assertEqual(printed(YES, (), ("sum", ())), "sum 0 where true")
        self.assertEqual(printed(YES, (), ("first", 3, (), ())), "first 3 where true")

    def test_read_back(self):
        chance = seeded(23)
        for _ in range(400):
            question = random_question(chance, deep=chance.choice([1, 2, 3, 5]))
            text = unchanged(self, print_query, question)
            self.assertEqual(read_query(question.tables, text), question)
            self.assertEqual(print_query(read_query(question.tables, text)), text)

    def test_deepest_and_most(self):
        for word in ("and", "or"):
            formula = S
            for _ in range(11):
                formula = (word, (formula,))
            question = Question(TABLES, (4,), formula, ("all",))
            self.assertEqual(read(print_query(question)), question)
            formula = (word, ((word, (P,) * 8),) * 6)
            question = Question(TABLES, (4, 4), formula, ("all",))
            self.assertEqual(read(print_query(question)), question)

    def test_any_spelling(self):
        chance = seeded(24)
        for _ in range(300):
            question = random_question(chance)
            self.assertEqual(read_query(question.tables, spelt(chance, question)), question)


def spelt(chance, question):
    """Some spelling of the question, with blanks, parentheses and zeros wherever they may stand."""
    names = chance.sample(["a", "b", "x", "yes", "abcdefghijkl", "nota", "e"], len(question.widths))
    tokens = []
    for at, (name, width) in enumerate(zip(names, question.widths)):
        tokens += ["," if at else "for", name, ":", str(width)]
    tokens += spelt_kind(chance, question.kind, names) + ["where"] + spelt_formula(chance, question.formula, names, 0)
    text = ""
    for token in tokens:
        apart = text and text[-1].isalnum() and token[0].isalnum() and text[-1].isalpha() == token[0].isalpha()
        text += chance.choice([" ", "\n", "  \n"] if apart else ["", " ", "\n \n"]) + token
    return text + chance.choice(["", " ", "\n"])


def spelt_kind(chance, kind, names):
    tokens = [kind[0]]
    if kind[0] == "sum":
        tokens += spelt_weights(chance, kind[1], names, False)
    if kind[0] == "first":
        tokens.append(str(kind[1]))
        if any(kind[2]) or chance.random() < 0.5:
            tokens += ["by"] + spelt_weights(chance, kind[2], names, True)
        groups = chance.sample(kind[3], len(kind[3]))
        for at, variable in enumerate(groups):
            tokens += ["," if at else "per", names[variable]]
    return tokens


def spelt_weights(chance, weights, names, signed):
    parts = [(weight, name) for weight, name in zip(weights, names) if weight or chance.random() < 0.3]
    chance.shuffle(parts)
    tokens = []
    for weight, name in parts:
        minus = weight < 0 or (weight == 0 and signed and chance.random() < 0.5)
        tokens += ["-"] if minus else ["+"] if tokens else []
        tokens += ([] if abs(weight) == 1 and chance.random() < 0.5 else [str(abs(weight))]) + [name]
    return tokens or ["0"]


def spelt_formula(chance, node, names, level):
    """level: 0 where "or" may stand bare, 1 where "and" may, 2 where neither may."""
    if chance.random() < 0.15:
        return ["("] + spelt_formula(chance, node, names, 0) + [")"]
    if node[0] == "row":
        return [node[1], "["] + joined([spelt_term(term, names) for term in node[2]], ",") + ["]"]
    if node[0] in ("same", "less"):
        return spelt_term(node[1], names) + ["=" if node[0] == "same" else "<"] + spelt_term(node[2], names)
    if node[0] == "not":
        return ["not"] + spelt_formula(chance, node[1], names, 2)
    if not node[1] and chance.random() < 0.5:
        return ["true" if node[0] == "and" else "false"]
    if len(node[1]) < 2 or chance.random() < 0.3:
        word = "every" if node[0] == "and" else "some"
        return [word, "("] + joined([spelt_formula(chance, part, names, 0) for part in node[1]], ",") + [")"]
    needs = 0 if node[0] == "or" else 1
    # a bare "and" or "or" among the parts of the like word would be read as more parts
    tokens = joined([spelt_formula(chance, part, names, needs + 1) for part in node[1]], node[0])
    return tokens if level <= needs else ["("] + tokens + [")"]


def spelt_term(term, names):
    return [names[term[1]] if term[0] == "var" else str(term[1])]


def joined(parts, token):
    tokens = []
    for at, part in enumerate(parts):
        tokens += ([token] if at else []) + part
    return tokens


if __name__ == "__main__":
    unittest.main()
