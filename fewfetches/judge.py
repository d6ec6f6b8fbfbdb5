"""The judge of papers: looks at each line once, reads no store and searches for nothing."""

from fewfetches.boxes import Box, join_along, points_of, whole_box
from fewfetches.deciding import decided
from fewfetches.errors import BadColumn, BadPaper, NoPage
from fewfetches.formulas import rows_at
from fewfetches.kinds import answer_of, group_of, order_key
from fewfetches.papers import Paper, is_line


class NamedPages:
    """What some of the known pages, by themselves, tell of rows; decided takes it for known pages."""

    def __init__(self, known, names):
        self._known = known
        self._counts = {name: counts for name, _, counts in known.shape}
        self._named = {page_name: True for page_name in names}

    def row_worth(self, name, row):
        """Whether the row is in the table, or None if these pages do not tell."""
        for layer, count in enumerate(self._counts[name]):
            if len(self.holders(name, layer, count, row)) == 0:
                return None
            mark = self._known.mark(name, layer, row)
            if mark != "none":
                return mark == "put"
        return False

    def holders(self, name, layer, count, row):
        """The names of those of these pages that hold the row in the layer, which has so many indexes."""
        names = [self._known.page_of(name, layer, index, row) for index in range(count)]
        return [page_name for page_name in names if page_name in self._named]

    def all_holders(self, name, row):
        """The names of those of these pages that hold the row, in any layer."""
        return [page_name for layer, count in enumerate(self._counts[name])
                for page_name in self.holders(name, layer, count, row)]

    def leave_out(self, page_name):
        del self._named[page_name]

    def take_back(self, page_name):
        self._named[page_name] = True


def judge_paper(question, paper, known):
    """None if the paper is taken, else its first fault: (number of the line, word)."""
    boxes = []
    answers = {}
    for number, line in enumerate(paper.lines):
        fault = _line_fault(question, line, known, boxes, answers)
        if fault is not None:
            return number, fault
        boxes.append(_box_of_line(line, boxes))
        if line[0] == "answer":
            answers[tuple(line[1])] = True
    fault = _end_fault(question, paper.answer, boxes, list(answers))
    return None if fault is None else (len(paper.lines), fault)


def _line_fault(question, line, known, boxes, answers):
    """The word for what is wrong with a line, or None; boxes and answers are those of the earlier lines."""
    if not is_line(line):
        return "line"
    if line[0] == "join":
        return "join" if _joined(line, boxes) is None else None
    if not _lies_within(line, question.widths):
        return "box"
    if line[0] == "behind":
        return None if _is_behind(question, line[1], answers) else "behind"
    if not all([_is_known(name, known) for name in line[2]]):
        return "page"
    box = _box_of_line(line, boxes)
    pages = NamedPages(known, line[2])
    return None if _all_decided(question, pages, list(points_of(box)), line[0]) else line[0]


def _joined(line, boxes):
    """The box of a "join" line, or None if it has none."""
    _, one, other, column = line
    if not 0 <= one < len(boxes) or not 0 <= other < len(boxes):
        return None
    try:
        return join_along(boxes[one], boxes[other], column)
    except BadColumn:
        return None


def _lies_within(line, widths):
    """Whether the box or point of the line holds only points of variables of these widths."""
    if line[0] == "answer":
        return len(line[1]) == len(widths) and all([0 <= value < width for value, width in zip(line[1], widths)])
    highs = line[1].highs
    return len(highs) == len(widths) and all([high <= width for high, width in zip(highs, widths)])


def _is_known(name, known):
    try:
        known.page(name)
    except NoPage:
        return False
    return True


def _box_of_line(line, boxes):
    """The box of a line without fault."""
    if line[0] == "join":
        return _joined(line, boxes)
    if line[0] == "answer":
        return Box(line[1], [value + 1 for value in line[1]])
    return line[1]


def _all_decided(question, pages, points, word):
    """Whether the pages decide each of the points as a line with this word says."""
    return all([decided(question, pages, point) == (word == "answer") for point in points])


def _is_behind(question, box, answers):
    """Whether enough of the answers are ahead of each point of the box, in its group."""
    if question.kind[0] != "first":
        return False
    if question.kind[1] == 0:
        return True
    last = _last_keys(question, answers)
    for point in points_of(box):
        group = group_of(question, point)
        if group not in last or not last[group] < order_key(question, point):
            return False
    return True


def _last_keys(question, answers):
    """By group, the order key of the last answer that is asked for, where there are so many."""
    keys = {}
    for point in answers:
        keys.setdefault(group_of(question, point), []).append(order_key(question, point))
    many = question.kind[1]
    return {group: sorted(keys[group])[many - 1] for group in keys if len(keys[group]) >= many}


def _end_fault(question, answer, boxes, answers):
    """The word for what is wrong with a paper whose lines have no fault, or None."""
    if question.kind[0] == "any" and len(answers) > 0:
        return None if answer in answers else "result"
    if len(boxes) == 0 or boxes[-1] != whole_box(question.widths):
        return "whole"
    return None if answer_of(question, answers) == answer else "result"


def lean_paper(question, paper, known):
    """The paper without each name that its lines can do without; raises BadPaper(line, what)."""
    fault = judge_paper(question, paper, known)
    if fault is not None:
        raise BadPaper(fault[0], fault[1])
    return Paper([_lean_line(question, line, known) for line in paper.lines], paper.answer)


def _lean_line(question, line, known):
    """The line as a tuple, without each name that it can do without, tried from the last one."""
    if line[0] != "false" and line[0] != "answer":
        return tuple(line)
    box = _box_of_line(line, [])
    names = sorted({name for name in line[2]})
    pages = NamedPages(known, names)
    resting = _points_resting(question, pages, list(points_of(box)))
    kept = []
    for name in reversed(names):
        pages.leave_out(name)
        if not _all_decided(question, pages, resting.get(name, []), line[0]):
            pages.take_back(name)
            kept.append(name)
    settled = tuple(line[1]) if line[0] == "answer" else line[1]
    return line[0], settled, tuple(reversed(kept))


def _points_resting(question, pages, points):
    """By page name, those of the points that ask a row of the page: no other point needs it."""
    resting = {}
    for point in points:
        for name, row in rows_at(question, point):
            for page_name in pages.all_holders(name, row):
                resting.setdefault(page_name, []).append(point)
    return resting
