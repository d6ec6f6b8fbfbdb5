"""A finder: looks for the first open point again and again, and tells in lines what it settled."""

from fewfetches.boxes import Box, points_of, whole_box
from fewfetches.deciding import decided
from fewfetches.errors import NoPage
from fewfetches.kinds import group_of, walked
from fewfetches.relevant import is_full, look_through
from fewfetches.settled import point_reasons, reasons, uniform


class Finder:
    """Looks for the first point that counts, and keeps what it settled from one call to the next."""

    def __init__(self, question):
        self._question = question
        self._walk = list(walked(question))
        # by point: how it is decided, and the names of pages that alone decide it so
        self._settled = {}
        # by page name: the page by which points were settled
        self._pages = {}
        self._found = ()

    @property
    def found(self):
        """The settled points ahead of the first open one at the latest call."""
        return self._found

    def next_open(self, known):
        """The first point of the walk that counts, or None if the question is determined."""
        self._drop_changed(known)
        first, self._found = look_through(self._question, self._walk, lambda point: self._settle(known, point))
        return first

    def _drop_changed(self, known):
        """Forgets the points that rest on a page which the known pages do not hold exactly as it was."""
        changed = {name: True for name in self._pages if not _holds_page(known, name, self._pages[name])}
        if len(changed) == 0:
            return
        self._pages = {name: self._pages[name] for name in self._pages if name not in changed}
        kept = {}
        for point, (worth, names) in self._settled.items():
            if not any([name in changed for name in names]):
                kept[point] = (worth, names)
        self._settled = kept

    def _settle(self, known, point):
        """Whether the point is decided, and how; keeps what is."""
        if point in self._settled:
            return self._settled[point][0]
        worth = decided(self._question, known, point)
        if worth is not None:
            names = point_reasons(self._question, known, point)
            self._settled[point] = (worth, names)
            for name in names:
                self._pages[name] = known.page(name)
        return worth

    def lines_for(self, known):
        """Lines that settle all points, or none if the question is not determined."""
        if self.next_open(known) is not None:
            return ()
        answers = [("answer", point, self._settled[point][1]) for point in self._found]
        if self._question.kind[0] == "any" and len(answers) > 0:
            return tuple(answers)
        maker = LineMaker(self._question, known, answers, self._behind())
        maker.cover(whole_box(self._question.widths))
        return tuple(maker.lines)

    def _behind(self):
        """A dict of the points that stand behind enough answering points of their group."""
        behind = {}
        taken = {}
        for point in self._walk:
            group = group_of(self._question, point)
            if is_full(self._question, taken.get(group, 0)):
                behind[point] = True
            elif self._settled[point][0]:
                taken[group] = taken.get(group, 0) + 1
        return behind


def _holds_page(known, name, page):
    """Whether the known page of this name is this one."""
    try:
        return known.page(name) == page
    except NoPage:
        return False


class LineMaker:
    """Lines of a determined question, from those with the box of one point on."""

    def __init__(self, question, known, answers, behind):
        self._question = question
        self._known = known
        self._behind = behind
        # the "answer" lines stand ahead of all others, for "behind" lines rest on earlier ones
        self.lines = list(answers)
        self._numbers = {line[1]: number for number, line in enumerate(answers)}

    def cover(self, box):
        """Adds lines until one has this box; returns its number."""
        if box.size == 1 and box.lows in self._numbers:
            return self._numbers[box.lows]
        line = self._single_line(box)
        if line is None:
            column, one, other = _halves(box)
            number = self.cover(one)
            line = ("join", number, self.cover(other), column)
        self.lines.append(line)
        return len(self.lines) - 1

    def _single_line(self, box):
        """A line that settles the box by itself, or None if it must be cut; it holds more than an answering point."""
        if uniform(self._question, self._known, box) is False:
            return "false", box, reasons(self._question, self._known, box)
        if all([point in self._behind for point in points_of(box)]):
            return "behind", box
        if box.size == 1:
            return "false", box, point_reasons(self._question, self._known, box.lows)
        return None


def _halves(box):
    """The column with the greatest range, and the two halves of the box along it."""
    ranges = [high - low for low, high in zip(box.lows, box.highs)]
    column = ranges.index(max(ranges))
    middle = box.lows[column] + ranges[column] // 2
    highs = box.highs[:column] + (middle,) + box.highs[column + 1:]
    lows = box.lows[:column] + (middle,) + box.lows[column + 1:]
    return column, Box(box.lows, highs), Box(lows, box.highs)
