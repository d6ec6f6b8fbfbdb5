"""The engine: reads the pages of one round after the other until the answer is determined."""

from fewfetches.errors import NotDone, Unasked
from fewfetches.finder import Finder
from fewfetches.kinds import answer_of
from fewfetches.rounds import round_at


class Run:
    """A result: what an engine read, round by round, its answer and its known pages."""

    def __init__(self, rounds, answer, known):
        self.rounds = rounds
        self.answer = answer
        self.known = known

    def __eq__(self, other):
        return (isinstance(other, Run) and self.rounds == other.rounds and self.answer == other.answer
                and self.known == other.known)


class Engine:
    """Tells which pages to read next, and takes them in any order."""

    def __init__(self, question, known):
        self.question = question
        self.known = known.twin()
        self.done = False
        self.answer = None
        self.waiting = ()
        self.rounds = ()
        self.reads = ()
        self._finder = Finder(question)
        # the names of the pages given in the round at hand
        self._given = ()
        self._look()

    @property
    def told_answer(self):
        """The answer; raises NotDone()."""
        if not self.done:
            raise NotDone()
        return self.answer

    def _look(self):
        """Finds the point whose round comes next, or else that the answer is determined."""
        self._point = self._finder.next_open(self.known)
        if self._point is None:
            self.done = True
            self.answer = answer_of(self.question, self._finder.found)

    def next_reads(self):
        """The reads that are waited for, of a new round if there are none; () if the engine is done."""
        if not self.done and len(self.waiting) == 0:
            self.waiting = round_at(self.question, self.known, self._point)
        return self.waiting

    def give(self, entry):
        """Takes a page that is waited for; raises Again(), Foreign(), Unasked()."""
        self.known.check_entry(entry)
        left = tuple([read for read in self.waiting if not lies_in(read, entry)])
        if len(left) == len(self.waiting):
            raise Unasked()
        name, layer, index, page = entry
        self.known.add(entry)
        self.waiting = left
        self.reads = self.reads + ((name, layer, index, page.first),)
        self._given = self._given + ((name, layer, index, page.first),)
        # a round is never broken off, also if its pages decide more than they were read for
        if len(left) == 0:
            self.rounds = self.rounds + (self._given,)
            self._given = ()
            self._look()


def lies_in(read, entry):
    """Whether the page of the entry is the one that the read asks for."""
    return read[:3] == entry[:3] and entry[3].holds(read[3])


def run_engine(question, source, known):
    """Runs an engine to its end on pages of the source."""
    engine = Engine(question, known)
    while not engine.done:
        name, layer, index, row = engine.next_reads()[0]
        engine.give((name, layer, index, source.read(name, layer, index, row)))
    return Run(engine.rounds, engine.answer, engine.known)
