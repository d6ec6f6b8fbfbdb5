"""What known pages decide: whether a formula holds at a point, and the rows on which that hangs."""

from fewfetches.formulas import rows_at, worth_bits


def unknown_rows(question, known, point):
    """The couples (name, row) that the point asks and whose worth is not known, ascending."""
    return tuple([(name, row) for name, row in rows_at(question, point) if known.row_worth(name, row) is None])


def all_fillings(question, known, point):
    """(unknown rows, the worths of the formula with all their fillings, these with all bits set).

    Bit f of the worths stands for filling f: the fillings are numbered in their order, so the first unknown row
    has the greatest bit of f."""
    worths = {(name, row): known.row_worth(name, row) for name, row in rows_at(question, point)}
    unknown = [couple for couple in worths if worths[couple] is None]
    full = (1 << (1 << len(unknown))) - 1
    bits = {couple: full if worths[couple] else 0 for couple in worths}
    for at, couple in enumerate(unknown):
        step = step_of(unknown, at)
        bits[couple] = _without_row(full, step) << step
    return unknown, worth_bits(question.formula, point, bits, full), full


def step_of(unknown, at):
    """How far apart the numbers of two fillings are that differ in this row alone."""
    return 1 << (len(unknown) - 1 - at)


def _without_row(full, step):
    """The bits of the fillings in which the row of this step is out: every second run of step bits from the lowest."""
    return full // ((1 << step) + 1)


def split_by_row(held, full, step):
    """The worths with the row of this step out, and with it in: a bit for each filling of the other rows."""
    out = _without_row(full, step)
    return held & out, (held >> step) & out


def first_filling(question, known, point, worth):
    """The first filling with which the formula has this worth at the point, or None."""
    unknown, held, full = all_fillings(question, known, point)
    right = held if worth else full ^ held
    if right == 0:
        return None
    number = (right & -right).bit_length() - 1
    return tuple([(couple, number & step_of(unknown, at) != 0) for at, couple in enumerate(unknown)])


def decided(question, known, point):
    """True if the formula holds at the point with every filling, False if with none, else None."""
    _, held, full = all_fillings(question, known, point)
    if held == full:
        return True
    return False if held == 0 else None


def hangs_on(question, known, point):
    """The unknown rows whose worth, with some filling of the others, alters that of the formula, ascending."""
    unknown, held, full = all_fillings(question, known, point)
    hanging = []
    for at, couple in enumerate(unknown):
        out, into = split_by_row(held, full, step_of(unknown, at))
        if out != into:
            hanging.append(couple)
    return tuple(hanging)
