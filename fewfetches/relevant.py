"""When known pages determine an answer, and the points that keep it open."""

from fewfetches.deciding import decided
from fewfetches.errors import NoFactor
from fewfetches.formulas import is_one_way
from fewfetches.kinds import answer_of, group_of, walked


def look_through(question, points, worth):
    """(the first open point or None, the settled points ahead of it), going through points in the order of the walk.

    worth is a function that tells of a point whether it is decided, and how, as decided does."""
    if question.kind[0] == "any":
        return _look_for_any(points, worth)
    settled = []
    taken = {}
    for point in points:
        group = group_of(question, point)
        if not is_full(question, taken.get(group, 0)):
            held = worth(point)
            if held is None:
                return point, tuple(settled)
            if held:
                settled.append(point)
                taken[group] = taken.get(group, 0) + 1
    return None, tuple(settled)


def is_full(question, many):
    """Whether a group with so many answering points needs no more."""
    return question.kind[0] == "first" and many >= question.kind[1]


def _look_for_any(points, worth):
    """As look_through for "any": one point that holds settles the question, wherever it stands."""
    first_undecided = None
    for point in points:
        held = worth(point)
        if held:
            return None, (point,)
        if held is None and first_undecided is None:
            first_undecided = point
    return first_undecided, ()


def _looked_through(question, known):
    """As look_through, for what known pages decide."""
    points = list(walked(question))
    return look_through(question, points, lambda point: decided(question, known, point))


def determined(question, known):
    """(answer,) if one answer is right in every store that holds the known pages, else None."""
    first, settled = _looked_through(question, known)
    if first is not None:
        return None
    return (answer_of(question, settled),)


def first_open(question, known):
    """The first point of the walk that counts, or None if the question is determined."""
    first, _ = _looked_through(question, known)
    return first


def settled_ahead(question, known):
    """The points ahead of first_open that are decided True and belong to the answer, in the order of the walk."""
    _, settled = _looked_through(question, known)
    return settled


def counts_open(question, known, point):
    """Whether the point keeps the answer open."""
    points = list(walked(question))
    return counts_among(question, points, lambda other: decided(question, known, other), point)


def counts_among(question, points, worth, point):
    """As counts_open, where points are all points in the order of the walk and worth is as for look_through."""
    if worth(point) is not None:
        return False
    if question.kind[0] == "any":
        return not any([worth(other) for other in points])
    if question.kind[0] != "first":
        return True
    group = group_of(question, point)
    ahead = points[:points.index(point)]
    worths = [worth(other) for other in ahead if group_of(question, other) == group]
    return None not in worths and worths.count(True) < question.kind[1]


def check_factor(question):
    """Raises NoFactor(what) if no factor is promised for the question."""
    if question.kind[0] == "any":
        raise NoFactor("any")
    if question.kind[0] in ("count", "sum") and not is_one_way(question):
        raise NoFactor("both")
