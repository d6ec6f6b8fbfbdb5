"""Least sets of pages: as few as anybody must read, the pages that can be spared, and what each round is charged to."""

from fewfetches.deciding import decided
from fewfetches.errors import BadRow, NoIndex, NoLayer, NoPage, NotEnough, NoTable, TooMany
from fewfetches.finder import Finder
from fewfetches.kinds import walked
from fewfetches.knowledge import is_page_name
from fewfetches.relevant import check_factor, counts_among, determined, look_through
from fewfetches.rounds import round_at


def gaining_pages(question, store, known, point):
    """The names of the pages that hold the reads of the point's round, ascending."""
    reads = round_at(question, known, point)
    return tuple(sorted({store.place_of(name, layer, index, row) for name, layer, index, row in reads}))


def _entry_of(store, page_name):
    """The entry of a page name; raises NoPage(name)."""
    if not is_page_name(page_name):
        raise NoPage(page_name)
    name, layer, index, row = page_name
    try:
        page = store.read(name, layer, index, row)
    except (NoTable, NoLayer, NoIndex, BadRow):
        raise NoPage(page_name) from None
    if page.first != row:
        raise NoPage(page_name)
    return name, layer, index, page


def more_known(store, known, names):
    """A Known in which the named pages of the store are known too; raises NoPage(name)."""
    more = known.twin()
    for page_name in names:
        entry = _entry_of(store, page_name)
        if not more.has(page_name[0], page_name[1], page_name[2], page_name[3]):
            more.add(entry)
    return more


class Reader:
    """Known pages of a store with the points that they decide, so that no point is decided again for more pages."""

    def __init__(self, question, store, known, walk, settled):
        self.question = question
        self.store = store
        self.known = known
        self._walk = walk
        # by point that was found decided: how
        self._settled = settled

    def _worth(self, point):
        """Whether the point is decided, and how."""
        if point not in self._settled:
            worth = decided(self.question, self.known, point)
            if worth is None:
                return None
            self._settled[point] = worth
        return self._settled[point]

    def open_point(self):
        """The first point of the walk that counts, or None."""
        first, _ = look_through(self.question, self._walk, lambda point: self._worth(point))
        return first

    def counts(self, point):
        """Whether the point keeps the answer open."""
        return counts_among(self.question, self._walk, lambda other: self._worth(other), point)

    def gaining(self, point):
        """The gaining pages of the point."""
        return gaining_pages(self.question, self.store, self.known, point)

    def with_page(self, page_name):
        """A reader that knows one page more."""
        more = more_known(self.store, self.known, [page_name])
        settled = {point: self._settled[point] for point in self._settled}
        return Reader(self.question, self.store, more, self._walk, settled)


def first_reader(question, store, known):
    """A reader that knows these pages and has looked at no point yet."""
    return Reader(question, store, known, list(walked(question)), {})


class Search:
    """All sets of at most so many pages that are had by adding a gaining page of an open point again and again."""

    def __init__(self, most):
        self.sets = []
        self._most = most
        self._seen = {}

    def look_from(self, reader, names):
        """Collects the sets that determine the answer, from the reader who has added these pages on."""
        if names in self._seen:
            return
        self._seen[names] = True
        point = reader.open_point()
        if point is None:
            self.sets.append(names)
        elif len(names) < self._most:
            for page_name in reader.gaining(point):
                self.look_from(reader.with_page(page_name), tuple(sorted(names + (page_name,))))


def least_more(question, store, known, most):
    """The first of the smallest sets of pages that determine the answer; raises NoFactor(what), TooMany(most)."""
    check_factor(question)
    reader = first_reader(question, store, known)
    for number in range(most + 1):
        search = Search(number)
        search.look_from(reader, ())
        if len(search.sets) > 0:
            return min(search.sets)
    raise TooMany(most)


def spare_pages(question, store, known, order):
    """What is left of all pages when those are left out, in this order, that can be; raises NoPage(name)."""
    for page_name in order:
        _entry_of(store, page_name)
    everything = more_known(store, known, store.page_names)
    before = known.names
    rest = {page_name: True for page_name in store.page_names if page_name not in before}
    finder = Finder(question)
    left_out = []
    for page_name in order:
        if page_name in rest and finder.next_open(everything.without(left_out + [page_name])) is None:
            left_out.append(page_name)
            del rest[page_name]
    return tuple(rest)


def charge_rounds(question, store, known, names):
    """For each round of the engine one of the names that it reads; raises NoFactor(what), NoPage(name), NotEnough()."""
    check_factor(question)
    if determined(question, more_known(store, known, names)) is None:
        raise NotEnough()
    named = {page_name: True for page_name in names}
    finder = Finder(question)
    charged = []
    point = finder.next_open(known)
    while point is not None:
        pages = gaining_pages(question, store, known, point)
        charged.append(min([page_name for page_name in pages if page_name in named]))
        known = more_known(store, known, pages)
        point = finder.next_open(known)
    return tuple(charged)
