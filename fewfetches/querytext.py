"""Questions as text: one printed form, and the reading of any spelling."""

from fewfetches.columns import LETTERS, LONGEST_NAME
from fewfetches.errors import BadText
from fewfetches.questions import Question

FIGURES = "0123456789"
MOST_FIGURES = 9
SIGNS = "[](),:=<+-"
BLANKS = " \n"
KEY_WORDS = ("for", "all", "any", "count", "sum", "first", "by", "per", "where", "and", "or", "not", "every", "some",
             "true", "false")
VARIABLES = "abcde"
DEEPEST = 40


def print_query(question):
    """The text of the question."""
    tokens = []
    for variable, width in enumerate(question.widths):
        tokens.extend(["for" if variable == 0 else ",", VARIABLES[variable], ":", str(width)])
    tokens.extend(_kind_tokens(question.kind))
    tokens.append("where")
    tokens.extend(_formula_tokens(question.formula))
    return _spaced(tokens)


def _spaced(tokens):
    """The tokens as one text, with a blank between two wherever one belongs there."""
    pieces = []
    before = "("
    for token in tokens:
        if before not in ("[", "(", ":") and token not in (",", ":", "]", "[", ")"):
            if token != "(" or before not in ("every", "some"):
                pieces.append(" ")
        pieces.append(token)
        before = token
    return "".join(pieces)


def _kind_tokens(kind):
    if kind[0] == "sum":
        return ["sum"] + _weight_tokens(kind[1])
    if kind[0] != "first":
        return [kind[0]]
    tokens = ["first", str(kind[1])]
    if any([weight != 0 for weight in kind[2]]):
        tokens = tokens + ["by"] + _weight_tokens(kind[2])
    for at, variable in enumerate(kind[3]):
        tokens.extend(["per" if at == 0 else ",", VARIABLES[variable]])
    return tokens


def _weight_tokens(weights):
    """The tokens of weights or of an order."""
    tokens = []
    for variable, weight in enumerate(weights):
        if weight < 0:
            tokens.append("-")
        elif weight > 0 and len(tokens) > 0:
            tokens.append("+")
        if abs(weight) > 1:
            tokens.append(str(abs(weight)))
        if weight != 0:
            tokens.append(VARIABLES[variable])
    return tokens if len(tokens) > 0 else ["0"]


def _formula_tokens(node):
    """The tokens of a formula, without parentheses of its own."""
    word = node[0]
    if word == "row":
        return [node[1]] + _listed("[", [_term_tokens(term) for term in node[2]], "]")
    if word == "same" or word == "less":
        return _term_tokens(node[1]) + ["=" if word == "same" else "<"] + _term_tokens(node[2])
    if word == "not":
        return ["not"] + _enclosed(node[1], _is_long(node[1]))
    if len(node[1]) == 0:
        return ["true" if word == "and" else "false"]
    if len(node[1]) == 1:
        return ["every" if word == "and" else "some"] + _listed("(", [_formula_tokens(node[1][0])], ")")
    tokens = []
    for at, part in enumerate(node[1]):
        if at > 0:
            tokens.append(word)
        tokens.extend(_enclosed(part, _is_long(part) and (word == "and" or part[0] == "or")))
    return tokens


def _term_tokens(term):
    return [VARIABLES[term[1]] if term[0] == "var" else str(term[1])]


def _listed(opening, parts, closing):
    """The tokens of the parts with commas between, in brackets."""
    tokens = [opening]
    for at, part in enumerate(parts):
        if at > 0:
            tokens.append(",")
        tokens.extend(part)
    return tokens + [closing]


def _is_long(node):
    """Whether the node is printed with "and" or "or" between its parts."""
    return (node[0] == "and" or node[0] == "or") and len(node[1]) > 1


def _enclosed(node, in_parentheses):
    tokens = _formula_tokens(node)
    return ["("] + tokens + [")"] if in_parentheses else tokens


def read_query(tables, text):
    """The question that the text tells over these tables; raises BadText(place), then BadQuestion(what, at)."""
    if not isinstance(text, str):
        raise BadText(0)
    reader = QueryReader(text)
    reader.read_head()
    kind = reader.read_kind()
    reader.skip("where")
    formula = reader.read_either()
    reader.skip("")
    return Question(tables, reader.widths, formula, kind)


def _tokens_of(text):
    """(token, place) for each token up to the first that is none, which stands as None, or "" at the end."""
    tokens = []
    at = 0
    while at < len(text):
        if text[at] in BLANKS:
            at += 1
        else:
            token = _token_at(text, at)
            tokens.append((token, at))
            if token is None:
                return tokens
            at += len(token)
    return tokens + [("", len(text))]


def _token_at(text, at):
    """The token that begins at this place, or None."""
    if text[at] in SIGNS:
        return text[at]
    if text[at] in LETTERS:
        word = _run_at(text, at, LETTERS)
        return word if len(word) <= LONGEST_NAME else None
    number = _run_at(text, at, FIGURES)
    if 1 <= len(number) <= MOST_FIGURES and (number == "0" or number[0] != "0"):
        return number
    return None


def _run_at(text, at, signs):
    """The longest run of these signs that begins at this place."""
    end = at
    while end < len(text) and text[end] in signs:
        end += 1
    return text[at:end]


def _is_word(token):
    return token is not None and token != "" and token[0] in LETTERS


def _is_number(token):
    return token is not None and token != "" and token[0] in FIGURES


class QueryReader:
    """The tokens of a query, read from the left; each method raises BadText(place) at a token that can not stand."""

    def __init__(self, text):
        self.tokens = _tokens_of(text)
        self.at = 0
        # how many "(" and "not" stand round the token at hand
        self.deep = 0
        self.numbers = {}
        self.widths = []

    def token(self, ahead=0):
        """The token at hand, or one further ahead; None for what is no token, "" for the end."""
        place = min(self.at + ahead, len(self.tokens) - 1)
        return self.tokens[place][0]

    def fail(self):
        """Raises BadText at the token at hand."""
        raise BadText(self.tokens[self.at][1])

    def skip(self, token):
        """Goes on behind the token at hand, which must be this one."""
        if self.token() != token:
            self.fail()
        self.at += 1

    def comes(self, token):
        """Whether this token is at hand; goes on behind it if so."""
        if self.token() != token:
            return False
        self.at += 1
        return True

    def go_deeper(self, token):
        """Goes on behind the token at hand, which must be this one and not stand too deep."""
        if self.token() != token or self.deep == DEEPEST:
            self.fail()
        self.deep += 1
        self.at += 1

    def read_number(self):
        token = self.token()
        if not _is_number(token):
            self.fail()
        self.at += 1
        return int(token)

    def read_head(self):
        """Reads the variables with their widths, if there is a head."""
        if self.comes("for"):
            self.read_declaration()
            while self.comes(","):
                self.read_declaration()

    def read_declaration(self):
        name = self.token()
        if not _is_word(name) or name in KEY_WORDS or name in self.numbers:
            self.fail()
        self.numbers[name] = len(self.numbers)
        self.at += 1
        self.skip(":")
        self.widths.append(self.read_number())

    def read_variable(self, taken):
        """The number of the variable at hand, which must not be one of those that are taken."""
        name = self.token()
        if not _is_word(name) or name not in self.numbers or self.numbers[name] in taken:
            self.fail()
        self.at += 1
        return self.numbers[name]

    def read_kind(self):
        for word in ("all", "any", "count"):
            if self.comes(word):
                return (word,)
        if self.comes("sum"):
            return "sum", self.read_weights(False)
        self.skip("first")
        many = self.read_number()
        order = self.read_weights(True) if self.comes("by") else [0] * len(self.widths)
        groups = []
        if self.comes("per"):
            groups.append(self.read_variable(groups))
            while self.comes(","):
                groups.append(self.read_variable(groups))
        return "first", many, order, sorted(groups)

    def read_weights(self, is_order):
        """The weights of a sum, or the order: one number for each variable."""
        weights = {}
        if self.token() == "0" and (not _is_word(self.token(1)) or self.token(1) in KEY_WORDS):
            self.at += 1
        else:
            negative = is_order and self.comes("-")
            self.read_part(weights, negative)
            while self.token() == "+" or (is_order and self.token() == "-"):
                negative = self.token() == "-"
                self.at += 1
                self.read_part(weights, negative)
        return [weights.get(variable, 0) for variable in range(len(self.widths))]

    def read_part(self, weights, negative):
        """Reads a number, perhaps left out, and its variable into the weights."""
        number = self.read_number() if _is_number(self.token()) else 1
        weights[self.read_variable(weights)] = -number if negative else number

    def read_either(self):
        parts = [self.read_both()]
        while self.comes("or"):
            parts.append(self.read_both())
        return parts[0] if len(parts) == 1 else ("or", parts)

    def read_both(self):
        parts = [self.read_plain()]
        while self.comes("and"):
            parts.append(self.read_plain())
        return parts[0] if len(parts) == 1 else ("and", parts)

    def read_plain(self):
        # any word with "[" behind it is a table's name, also a key word
        if _is_word(self.token()) and self.token(1) == "[":
            return self.read_row()
        if self.token() == "not":
            self.go_deeper("not")
            part = self.read_plain()
            self.deep -= 1
            return "not", part
        if self.token() == "(":
            self.go_deeper("(")
            part = self.read_either()
            self.skip(")")
            self.deep -= 1
            return part
        if self.comes("true"):
            return "and", ()
        if self.comes("false"):
            return "or", ()
        if self.comes("every"):
            return "and", self.read_parts()
        if self.comes("some"):
            return "or", self.read_parts()
        return self.read_comparison()

    def read_parts(self):
        """The parts in the parentheses of every and some."""
        self.go_deeper("(")
        parts = []
        if not self.comes(")"):
            parts.append(self.read_either())
            while self.comes(","):
                parts.append(self.read_either())
            self.skip(")")
        self.deep -= 1
        return parts

    def read_row(self):
        name = self.token()
        self.at += 1
        self.skip("[")
        terms = [self.read_term()]
        while self.comes(","):
            terms.append(self.read_term())
        self.skip("]")
        return "row", name, terms

    def read_term(self):
        if _is_number(self.token()):
            return "num", self.read_number()
        return "var", self.read_variable({})

    def read_comparison(self):
        one = self.read_term()
        word = "same" if self.token() == "=" else "less"
        if not self.comes("="):
            self.skip("<")
        return word, one, self.read_term()
