"""Data as text: integers, names and tuples of these, each with exactly one text."""

from fewfetches.columns import LETTERS, LONGEST_NAME, is_name, is_sequence, is_whole
from fewfetches.errors import BadData, BadText

FIGURES = "0123456789"
MOST_FIGURES = 400
GREATEST_INTEGER = (10 ** 50) ** 8 - 1
DEEPEST_TUPLE = 40


def data_text(data):
    """The text of the data; raises BadData()."""
    return _text_of(data, 1)


def _text_of(data, deep):
    """The text of data that, if it is a tuple, stands so deep."""
    if is_whole(data, -GREATEST_INTEGER, GREATEST_INTEGER):
        return str(data)
    if is_name(data):
        return data
    if not is_sequence(data) or deep > DEEPEST_TUPLE:
        raise BadData()
    return "[" + ",".join([_text_of(item, deep + 1) for item in data]) + "]"


def read_data(text):
    """The data of which this is the text; raises BadText(place)."""
    if not isinstance(text, str):
        raise BadText(0)
    data, at = _read_item(text, 0, 1)
    if at < len(text):
        raise BadText(at)
    return data


def _read_item(text, at, deep):
    """The data whose text begins at this place, and the place behind it; a tuple stands so deep."""
    sign = _sign_at(text, at)
    if sign == "[":
        if deep > DEEPEST_TUPLE:
            raise BadText(at)
        return _read_tuple(text, at + 1, deep)
    if sign in LETTERS:
        end = _run_end(text, at, LETTERS, LONGEST_NAME)
        return text[at:end], end
    return _read_integer(text, at)


def _sign_at(text, at):
    """The sign at this place; raises BadText(at) if the text ends there."""
    if at >= len(text):
        raise BadText(at)
    return text[at]


def _run_end(text, at, signs, most):
    """The place behind the longest run of these signs that begins here and has at most so many."""
    end = at
    while end < len(text) and end - at < most and text[end] in signs:
        end += 1
    return end


def _read_tuple(text, at, deep):
    """The tuple whose first item begins at this place, or which ends there, and the place behind it."""
    if _sign_at(text, at) == "]":
        return (), at + 1
    items = []
    while True:
        item, at = _read_item(text, at, deep + 1)
        items.append(item)
        sign = _sign_at(text, at)
        if sign == "]":
            return tuple(items), at + 1
        if sign != ",":
            raise BadText(at)
        at += 1


def _read_integer(text, at):
    """The integer whose text begins at this place, and the place behind it."""
    if text[at] == "0":
        return 0, at + 1
    first = at + 1 if text[at] == "-" else at
    # neither is -0 an integer's text, nor may a number begin with a zero
    if _sign_at(text, first) not in FIGURES or text[first] == "0":
        raise BadText(first)
    end = _run_end(text, first, FIGURES, MOST_FIGURES)
    return int(text[at:end]), end
