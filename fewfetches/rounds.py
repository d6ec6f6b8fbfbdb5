"""Rounds of reads: the pages that are read next, and the most that a round can read."""

from fewfetches.deciding import hangs_on
from fewfetches.formulas import all_points, rows_at
from fewfetches.knowledge import find_shape
from fewfetches.relevant import first_open


def round_at(question, known, point):
    """The reads, in every index of its first unknown layer, of each row on which the point hangs."""
    reads = []
    for name, row in hangs_on(question, known, point):
        layer = known.first_unknown(name, row)
        for index in range(find_shape(known.shape, name)[2][layer]):
            reads.append((name, layer, index, row))
    return tuple(reads)


def next_round(question, known):
    """The reads of the first open point; () if the answer is determined."""
    point = first_open(question, known)
    if point is None:
        return ()
    return round_at(question, known, point)


def most_pages(question, shape):
    """The most indexes in which the rows of one point can lie, each row in one layer."""
    most = 0
    for point in all_points(question.widths):
        most = max(most, sum([max(find_shape(shape, name)[2]) for name, _ in rows_at(question, point)]))
    return most
