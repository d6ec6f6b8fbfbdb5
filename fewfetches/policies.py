"""Policies: other readers, which choose read by read by what is known."""

from fewfetches.columns import is_sequence, is_whole
from fewfetches.errors import BadPolicy
from fewfetches.formulas import all_points
from fewfetches.kinds import answer_by
from fewfetches.relevant import determined
from fewfetches.rounds import next_round


class Log:
    """A result: the reads that were made, the names of the pages that they gave, and the said answer."""

    def __init__(self, reads, gained, answer):
        self.reads = reads
        self.gained = gained
        self.answer = answer

    def __eq__(self, other):
        return (isinstance(other, Log) and self.reads == other.reads and self.gained == other.gained
                and self.answer == other.answer)


def open_reads(known):
    """All reads whose row lies in no known page of its index, ascending."""
    reads = []
    for name, widths, counts in known.shape:
        rows = list(all_points(widths))
        for layer, count in enumerate(counts):
            for index in range(count):
                reads.extend([(name, layer, index, row) for row in rows if not known.has(name, layer, index, row)])
    return tuple(reads)


def said_answer(question, known):
    """The answer that is determined, or else the one if just the rows are in that are known to be in."""
    told = determined(question, known)
    if told is not None:
        return told[0]
    return answer_by(question, lambda name, row: known.row_worth(name, row))


def _first_of(reads):
    return reads[0] if len(reads) > 0 else None


class Policy:
    """Reads nothing."""

    def __init__(self):
        self.told = ("none",)

    def choose(self, question, known, turn):
        """The open read to make next, or None."""
        return None

    def __eq__(self, other):
        return isinstance(other, Policy) and self.told == other.told


class Choices(Policy):
    """Reads by numbers, one for each turn: a place among the open reads, or behind the last of them to stop."""

    def __init__(self, numbers):
        self.told = ("choices", tuple(numbers))

    def choose(self, question, known, turn):
        """The open read to make next, or None."""
        numbers = self.told[1]
        if turn >= len(numbers):
            return None
        reads = open_reads(known)
        place = numbers[turn] % (len(reads) + 1)
        return reads[place] if place < len(reads) else None

    def __eq__(self, other):
        return isinstance(other, Choices) and self.told == other.told


class FirstGap(Policy):
    """Makes the first read of the next round."""

    def __init__(self):
        self.told = ("gap",)

    def choose(self, question, known, turn):
        """The open read to make next, or None."""
        return _first_of(next_round(question, known))

    def __eq__(self, other):
        return isinstance(other, FirstGap) and self.told == other.told


class Cheapest(Policy):
    """Makes a read of the next round in an index of which the fewest pages are known."""

    def __init__(self):
        self.told = ("cheap",)

    def choose(self, question, known, turn):
        """The open read to make next, or None."""
        counts = {}
        for page_name in known.names:
            index = page_name[:3]
            counts[index] = counts.get(index, 0) + 1
        return min(next_round(question, known), key=lambda read: counts.get(read[:3], 0), default=None)

    def __eq__(self, other):
        return isinstance(other, Cheapest) and self.told == other.told


class Everything(Policy):
    """Reads all pages."""

    def __init__(self):
        self.told = ("whole",)

    def choose(self, question, known, turn):
        """The open read to make next, or None."""
        return _first_of(open_reads(known))

    def __eq__(self, other):
        return isinstance(other, Everything) and self.told == other.told


class InRounds(Policy):
    """Makes the reads of a round to its end, as far as they are open; it keeps the round."""

    def __init__(self):
        self.told = ("rounds",)
        self.waiting = ()

    def choose(self, question, known, turn):
        """The open read to make next, or None."""
        left = [(name, layer, index, row) for name, layer, index, row in self.waiting
                if not known.has(name, layer, index, row)]
        self.waiting = tuple(left) if len(left) > 0 else next_round(question, known)
        return _first_of(self.waiting)

    def __eq__(self, other):
        return isinstance(other, InRounds) and self.told == other.told


def policy_of(told):
    """A new policy of this told; raises BadPolicy()."""
    if not is_sequence(told, 1, 2):
        raise BadPolicy()
    word = told[0]
    if len(told) == 2:
        if word == "choices" and is_sequence(told[1]) and all([is_whole(number) for number in told[1]]):
            return Choices(told[1])
        raise BadPolicy()
    if word == "none":
        return Policy()
    if word == "gap":
        return FirstGap()
    if word == "cheap":
        return Cheapest()
    if word == "whole":
        return Everything()
    if word == "rounds":
        return InRounds()
    raise BadPolicy()


def run_policy(policy, question, source, known):
    """Reads what the policy chooses until it chooses nothing."""
    now = known.twin()
    reads = []
    gained = []
    read = policy.choose(question, now, 0)
    while read is not None:
        name, layer, index, row = read
        page = source.read(name, layer, index, row)
        now.add((name, layer, index, page))
        reads.append(read)
        gained.append((name, layer, index, page.first))
        read = policy.choose(question, now, len(reads))
    return Log(tuple(reads), tuple(gained), said_answer(question, now))
