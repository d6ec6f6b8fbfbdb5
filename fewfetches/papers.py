"""Papers: the lines that show an answer right, with the answer."""

from fewfetches.boxes import Box
from fewfetches.columns import is_sequence, is_whole
from fewfetches.errors import Undetermined
from fewfetches.finder import Finder
from fewfetches.kinds import answer_of
from fewfetches.questions import frozen


class Paper:
    """Lines and an answer; it keeps what it is given and checks nothing."""

    def __init__(self, lines, answer):
        self.lines = tuple(lines)
        self.answer = answer
        self.told = (tuple([_told_line(line) for line in self.lines]), frozen(answer))

    @classmethod
    def of_told(cls, told):
        """The paper of which this is the told."""
        return cls([_line_of_told(line) for line in told[0]], told[1])

    def __len__(self):
        return len(self.lines)

    def __iter__(self):
        return iter(self.lines)

    def __eq__(self, other):
        return isinstance(other, Paper) and self.lines == other.lines and self.answer == other.answer


def is_line(thing):
    """Whether the thing is a list or tuple of one of the four forms of a line."""
    if not is_sequence(thing, 2, 4):
        return False
    word = thing[0]
    if word == "false":
        return len(thing) == 3 and isinstance(thing[1], Box) and is_sequence(thing[2])
    if word == "answer":
        return len(thing) == 3 and _are_integers(thing[1]) and is_sequence(thing[2])
    if word == "behind":
        return len(thing) == 2 and isinstance(thing[1], Box)
    return word == "join" and len(thing) == 4 and _are_integers(thing[1:])


def _are_integers(thing):
    return is_sequence(thing) and all([is_whole(item) for item in thing])


def _told_line(line):
    """The line made of tuples alone; what is no line stands as it is."""
    if not is_line(line):
        return line
    return tuple([item.told if isinstance(item, Box) else frozen(item) for item in line])


def _line_of_told(line):
    """The line of which this is the told."""
    if line[0] == "false" or line[0] == "behind":
        return (line[0], Box.of_told(line[1])) + line[2:]
    return line


def paper_of(question, known):
    """A paper that shows the answer right; raises Undetermined()."""
    finder = Finder(question)
    if finder.next_open(known) is not None:
        raise Undetermined()
    return Paper(finder.lines_for(known), answer_of(question, finder.found))


def paper_names(paper):
    """The unlike page names in the "false" and "answer" lines, ascending."""
    naming = [line for line in paper.lines if line[0] == "false" or line[0] == "answer"]
    return tuple(sorted({name for line in naming for name in line[2]}))
