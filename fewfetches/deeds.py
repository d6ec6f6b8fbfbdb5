"""Deeds: what a desk can be told to do, their form, and stories of them as text."""

from fewfetches.boxes import Box
from fewfetches.columns import is_sequence, is_whole
from fewfetches.datatext import data_text, read_data
from fewfetches.errors import BadBox, BadDeed, BadQuestion, BadStory, BadText
from fewfetches.questions import Question

EDITS = ("put", "remove", "flush", "compact", "relay")
# the words of the deeds, each with its number of entries
DEEDS = {"put": 3, "remove": 3, "flush": 3, "compact": 3, "relay": 5, "at": 2, "read": 5, "forget": 2, "ask": 2,
         "cut": 3, "resume": 1, "by": 3, "share": 2, "partial": 3, "paper": 2}
# the place of the question in the deeds that have one
QUESTION_AT = {"ask": 1, "cut": 1, "by": 2, "partial": 1, "paper": 1}
MOST_TO_CUT = 4096


def check_deed(deed):
    """Raises BadDeed() if the thing has not the form of a deed."""
    _check_form(deed)
    if not all([isinstance(question, Question) for question in questions_in(deed)]):
        raise BadDeed()
    if deed[0] == "cut" and not is_whole(deed[2], 0, MOST_TO_CUT):
        raise BadDeed()
    if deed[0] == "forget":
        if not is_sequence(deed[1]) or not all([is_sequence(read, 4, 4) for read in deed[1]]):
            raise BadDeed()


def _check_form(deed):
    """Raises BadDeed() for a wrong word or number of entries, or questions that are no sequence."""
    if not is_sequence(deed, 1) or not isinstance(deed[0], str) or DEEDS.get(deed[0]) != len(deed):
        raise BadDeed()
    if deed[0] == "share" and not is_sequence(deed[1], 1):
        raise BadDeed()


def questions_in(deed):
    """The questions that stand in a deed."""
    if deed[0] == "share":
        return tuple(deed[1])
    if deed[0] in QUESTION_AT:
        return (deed[QUESTION_AT[deed[0]]],)
    return ()


def print_deeds(deeds):
    """The deeds as text, one line for each."""
    return "\n".join([data_text(_as_data(deed)) for deed in deeds])


def _as_data(thing):
    """The thing with each Question and Box by its told."""
    if isinstance(thing, (Question, Box)):
        return thing.told
    if is_sequence(thing):
        return tuple([_as_data(item) for item in thing])
    return thing


def read_deeds(text):
    """The deeds of which this is the text; raises BadStory(line)."""
    return tuple([deed_of_line(line, number) for number, line in enumerate(lines_of(text))])


def lines_of(text):
    """The lines of a text of deeds; raises BadStory(0)."""
    if not isinstance(text, str):
        raise BadStory(0)
    return text.split("\n") if text != "" else []


def deed_of_line(line, number):
    """The deed of the line with this number; raises BadStory(number)."""
    try:
        deed = _with_objects(read_data(line))
        check_deed(deed)
    except (BadText, BadDeed, BadQuestion, BadBox):
        raise BadStory(number) from None
    return deed


def _with_objects(data):
    """The data of a deed with Questions and Boxes; raises BadDeed(), BadQuestion(what, at), BadBox(what, at)."""
    _check_form(data)
    word = data[0]
    if word in QUESTION_AT:
        at = QUESTION_AT[word]
        return data[:at] + (Question.of_told(data[at]),) + data[at + 1:]
    if word == "share":
        return word, tuple([Question.of_told(told) for told in data[1]])
    if word == "flush":
        return word, data[1], changed_items(data[2], kind_of_told)
    if word == "relay":
        return data[:4] + (kind_of_told(data[4]),)
    return data


def changed_items(thing, change):
    """The items of the thing as the function changes them; what is no sequence stands as it is."""
    if not is_sequence(thing):
        return thing
    return tuple([change(item) for item in thing])


def kind_of_told(kind):
    """The kind of an index with Boxes in its places; raises BadBox(what, at)."""
    if not is_sequence(kind, 2, 2) or kind[0] != "given":
        return kind
    return "given", changed_items(kind[1], _place_of_told)


def _place_of_told(place):
    return changed_items(place, _box_of_told)


def _box_of_told(told):
    if not is_sequence(told, 2, 2):
        raise BadBox("lows", 0)
    return Box.of_told(told)
