"""What an answer is, for each kind of question, and the order in which points are considered."""

from fewfetches.formulas import all_points, formula_worth, point_worth, rows_at


def group_of(question, point):
    """The group of the point: its values at the grouping variables of "first", () for every other kind."""
    if question.kind[0] != "first":
        return ()
    return tuple([point[variable] for variable in question.kind[3]])


def groups_of(question):
    """The groups of all points, ascending."""
    if question.kind[0] != "first":
        return ((),)
    widths = [question.widths[variable] for variable in question.kind[3]]
    return tuple(all_points(widths))


def _weighed(weights, point):
    """The sum of weight times value over the variables."""
    return sum([weight * value for weight, value in zip(weights, point)])


def order_key(question, point):
    """(group, minus the order sum, point): the walk is ascending by this."""
    order_sum = _weighed(question.kind[2], point) if question.kind[0] == "first" else 0
    return group_of(question, point), -order_sum, point


def is_ahead(question, one, other):
    """Whether one point comes strictly before the other in the walk."""
    return order_key(question, one) < order_key(question, other)


def walked(question):
    """Yields all points in the order of the walk."""
    points = list(all_points(question.widths))
    for point in sorted(points, key=lambda point: order_key(question, point)):
        yield point


def weight_of(question, point):
    """What the point adds to a sum: 1, and for "sum" the weighed values too."""
    if question.kind[0] != "sum":
        return 1
    return 1 + _weighed(question.kind[1], point)


def answer_of(question, points):
    """The answer if exactly these points are answering points."""
    unlike = sorted({tuple(point) for point in points})
    word = question.kind[0]
    if word == "all":
        return tuple(unlike)
    if word == "first":
        return _firsts(question, unlike)
    if word == "any":
        return unlike[0] if len(unlike) > 0 else None
    return sum([weight_of(question, point) for point in unlike])


def _firsts(question, points):
    """Of each group its first points in the walk, at most as many as the kind says."""
    taken = {}
    firsts = []
    for point in sorted(points, key=lambda point: order_key(question, point)):
        group = group_of(question, point)
        taken[group] = taken.get(group, 0) + 1
        if taken[group] <= question.kind[1]:
            firsts.append(point)
    return tuple(firsts)


def answer_by(question, worth):
    """The answer if of the rows that points ask those are in for which worth(name, row) is True."""
    worths = {}
    holding = []
    for point in all_points(question.widths):
        for name, row in rows_at(question, point):
            if (name, row) not in worths:
                worths[(name, row)] = worth(name, row) is True
        if formula_worth(question, point, worths):
            holding.append(point)
    return answer_of(question, holding)


def plain_answer(question, store):
    """The answer in the store."""
    return answer_by(question, lambda name, row: store.value(name, row))


def is_right(question, store, answer):
    """Whether the answer is right in the store: for "any" each answering point is, or None if there is none."""
    if question.kind[0] != "any" or answer is None:
        return plain_answer(question, store) == answer
    return point_worth(question, store, answer)
