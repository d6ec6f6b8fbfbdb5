"""Stories: desks put away as text and taken up again."""

from fewfetches.columns import is_sequence
from fewfetches.datatext import read_data
from fewfetches.deeds import EDITS, changed_items, deed_of_line, kind_of_told, print_deeds
from fewfetches.desk import Desk, check_fit
from fewfetches.errors import BadQuestion, BadStory, BadText, FetchError
from fewfetches.questions import Question
from fewfetches.stores import Store

# the words of the lines behind the first one: none stands behind one with a greater number
STAGES = {"put": 0, "remove": 0, "flush": 0, "compact": 0, "relay": 0, "at": 1, "read": 2, "halt": 3}
ONCE = ("at", "halt")


def put_away(desk):
    """The desk as text."""
    first = desk.versions[0]
    lines = [("desk", first.store.told, first.kinds, first.room)]
    lines.extend([deed for deed, _ in desk.log if deed[0] in EDITS])
    if desk.number != desk.versions[-1].number:
        lines.append(("at", desk.number))
    lines.extend([("read",) + page_name for page_name in desk.known.names])
    if desk.halted is not None:
        lines.append(("halt", desk.halted))
    return print_deeds(lines)


def taken_up(text):
    """The desk of which this is the text; raises BadStory(line)."""
    if not isinstance(text, str):
        raise BadStory(0)
    lines = text.split("\n")
    desk = _first_desk(lines[0])
    stage = 0
    for number in range(1, len(lines)):
        deed = _later_deed(lines[number], number)
        before = stage
        stage = STAGES[deed[0]]
        if stage < before or (stage == before and deed[0] in ONCE):
            raise BadStory(number)
        _do_line(desk, deed, number)
    return desk


def _first_desk(line):
    """The desk of the first line, without any deed; raises BadStory(0)."""
    try:
        told = read_data(line)
    except BadText:
        raise BadStory(0) from None
    if not is_sequence(told, 4, 4) or told[0] != "desk" or not _is_store_form(told[1]):
        raise BadStory(0)
    try:
        return Desk(Store.of_told(told[1]), _kinds_of_told(told[2]), told[3])
    except FetchError:
        raise BadStory(0) from None


def _are_all(thing, check):
    """Whether the thing is a sequence of which the function returns True for each item."""
    return is_sequence(thing) and all([check(item) for item in thing])


def _is_couple(thing):
    return is_sequence(thing, 2, 2)


def _is_store_form(thing):
    """Whether sequences lie in one another as in the told of a store; what is in them is left to the constructors."""
    return _are_all(thing, _is_table_form)


def _is_table_form(thing):
    return _is_couple(thing) and _are_all(thing[1], _is_layer_form)


def _is_layer_form(thing):
    return _is_couple(thing) and _are_all(thing[1], _is_index_form)


def _is_index_form(thing):
    return _are_all(thing, _is_page_form)


def _is_page_form(thing):
    return _is_couple(thing) and _are_all(thing[0], _is_couple)


def _kinds_of_told(kinds):
    """The kinds of all tables with Boxes in their places; raises BadBox(what, at)."""
    return changed_items(kinds, _table_kinds)


def _table_kinds(kinds):
    return changed_items(kinds, _layer_kinds)


def _layer_kinds(kinds):
    return changed_items(kinds, kind_of_told)


def _later_deed(line, number):
    """The deed, or ("halt", question), of a line behind the first one; raises BadStory(number)."""
    try:
        data = read_data(line)
        if _is_couple(data) and data[0] == "halt":
            return "halt", Question.of_told(data[1])
    except (BadText, BadQuestion):
        raise BadStory(number) from None
    deed = deed_of_line(line, number)
    if deed[0] not in STAGES:
        raise BadStory(number)
    return deed


def _do_line(desk, deed, number):
    """Does what a line behind the first one tells; raises BadStory(number)."""
    try:
        if deed[0] == "halt":
            check_fit(desk, deed[1])
            desk.halted = deed[1]
        else:
            desk.do_deed(deed)
    except FetchError:
        raise BadStory(number) from None
