"""Shared rounds: several questions answered together, with the reads of all of them in each round."""

from fewfetches.finder import Finder
from fewfetches.kinds import answer_of
from fewfetches.rounds import round_at


def read_open(source, known, reads):
    """Makes the pages of the reads known, each read once; returns their names, ascending."""
    names = []
    for name, layer, index, row in reads:
        if not known.has(name, layer, index, row):
            page = source.read(name, layer, index, row)
            known.add((name, layer, index, page))
            names.append((name, layer, index, page.first))
    return tuple(sorted(names))


class Shared:
    """Questions that are answered together."""

    def __init__(self, questions, source, known):
        self.questions = tuple(questions)
        self.known = known.twin()
        self.rounds = ()
        self._source = source
        self._finders = [Finder(question) for question in self.questions]
        self._look()

    def _look(self):
        """Finds for each question the point whose round comes next, or else its answer."""
        self._points = [finder.next_open(self.known) for finder in self._finders]
        answers = []
        for question, finder, point in zip(self.questions, self._finders, self._points):
            answers.append((answer_of(question, finder.found),) if point is None else None)
        self.answers = tuple(answers)
        self.done = all([told is not None for told in answers])

    def step(self):
        """Makes a round; returns the names of the pages read, ascending."""
        if self.done:
            return ()
        reads = []
        for question, point in zip(self.questions, self._points):
            if point is not None:
                reads.extend(round_at(question, self.known, point))
        names = read_open(self._source, self.known, reads)
        self.rounds = self.rounds + (names,)
        self._look()
        return names

    def finish(self):
        """Makes rounds until all questions are answered; returns their answers."""
        while not self.done:
            self.step()
        return tuple([told[0] for told in self.answers])
