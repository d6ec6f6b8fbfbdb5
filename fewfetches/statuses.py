"""Statuses of points while some indexes can not be read: sure, never or in doubt."""

from fewfetches.columns import is_sequence, is_whole
from fewfetches.deciding import all_fillings, split_by_row, step_of
from fewfetches.errors import BadDead, NoSpread, NotInDoubt
from fewfetches.foils import fill_rows, first_fills
from fewfetches.formulas import all_points, is_one_way
from fewfetches.kinds import weight_of
from fewfetches.knowledge import find_shape
from fewfetches.least import more_known
from fewfetches.shared import read_open


class Partial:
    """A result: the points by their statuses, the rounds that told them, and the known pages."""

    def __init__(self, sure, never, doubt, rounds, known):
        self.sure = sure
        self.never = never
        self.doubt = doubt
        self.rounds = rounds
        self.known = known

    def __eq__(self, other):
        return (isinstance(other, Partial) and self.sure == other.sure and self.never == other.never
                and self.doubt == other.doubt and self.rounds == other.rounds and self.known == other.known)


def check_dead(shape, dead):
    """The unlike dead indexes, ascending; raises BadDead(at)."""
    if not is_sequence(dead):
        raise BadDead(0)
    for at, item in enumerate(dead):
        if not _is_index(shape, item):
            raise BadDead(at)
    return tuple(sorted({tuple(item) for item in dead}))


def _is_index(shape, thing):
    """Whether the thing is a sequence of a name, layer and index of the shape."""
    if not is_sequence(thing, 3, 3):
        return False
    for name, _, counts in shape:
        if thing[0] == name and is_whole(thing[1], 0, len(counts) - 1):
            return is_whole(thing[2], 0, counts[thing[1]] - 1)
    return False


class Outlook:
    """What can come of an undecided formula at a point: its fillings, by what is settled once the living rows are.

    sure and may have a bit for each filling, as all_fillings tells it: whether the formula holds with all, and with
    some, fillings of the lost rows beside this filling's living ones."""

    def __init__(self, question, known, dead, point):
        self.unknown, held, self.full = all_fillings(question, known, point)
        self.lives = [_living_reads(known, dead, name, row) for name, row in self.unknown]
        self.sure = held
        self.may = held
        for at, reads in enumerate(self.lives):
            if len(reads) == 0:
                step = step_of(self.unknown, at)
                out, into = split_by_row(self.sure, self.full, step)
                self.sure = _in_both(out & into, step)
                out, into = split_by_row(self.may, self.full, step)
                self.may = _in_both(out | into, step)


def _in_both(worths, step):
    """Worths that were told for the row of this step being out, for its being in too."""
    return worths | (worths << step)


def _living_reads(known, dead, name, row):
    """The reads of an unknown row in its first unknown layer, of the indexes that are not dead; none if it is lost."""
    layer = known.first_unknown(name, row)
    many = find_shape(known.shape, name)[2][layer]
    return [(name, layer, index, row) for index in range(many) if (name, layer, index) not in dead]


def status_of(question, known, dead, point):
    """The status of the point, "sure", "never" or "doubt", if it is one in all stores, else None."""
    outlook = Outlook(question, known, check_dead(known.shape, dead), point)
    if outlook.sure == outlook.full:
        return "sure"
    if outlook.may == 0:
        return "never"
    if outlook.sure == 0 and outlook.may == outlook.full:
        return "doubt"
    return None


def status_round(question, known, dead, point):
    """The reads of the living rows on which the status of the point hangs, ascending."""
    outlook = Outlook(question, known, check_dead(known.shape, dead), point)
    hanging = []
    for at, reads in enumerate(outlook.lives):
        step = step_of(outlook.unknown, at)
        sure_out, sure_in = split_by_row(outlook.sure, outlook.full, step)
        may_out, may_in = split_by_row(outlook.may, outlook.full, step)
        if sure_out != sure_in or may_out != may_in:
            hanging.extend(reads)
    return tuple(sorted(hanging))


def read_partial(question, source, known, dead):
    """Reads living pages until the status of every point is told."""
    now = known.twin()
    told = {"sure": [], "never": [], "doubt": []}
    rounds = []
    for point in list(all_points(question.widths)):
        status = status_of(question, now, dead, point)
        while status is None:
            rounds.append(read_open(source, now, status_round(question, now, dead, point)))
            status = status_of(question, now, dead, point)
        told[status].append(point)
    return Partial(tuple(told["sure"]), tuple(told["never"]), tuple(told["doubt"]), tuple(rounds), now)


def spread_of(question, partial):
    """The least and the greatest count or sum that there can be; raises NoSpread(what)."""
    if question.kind[0] not in ("count", "sum"):
        raise NoSpread("kind")
    if not is_one_way(question):
        raise NoSpread("both")
    least = sum([weight_of(question, point) for point in partial.sure])
    return least, least + sum([weight_of(question, point) for point in partial.doubt])


def doubt_stores(question, store, known, dead, point):
    """Two stores with the same living pages: in the first the point holds, in the second not.

    Raises NotInDoubt(point)."""
    if status_of(question, known, dead, point) != "doubt":
        raise NotInDoubt(point)
    gone = check_dead(known.shape, dead)
    living = more_known(store, known, [page_name for page_name in store.page_names if page_name[:3] not in gone])
    one = fill_rows(store, living, first_fills(question, living, point, True))
    return one, fill_rows(store, living, first_fills(question, living, point, False))
