"""Desks: the versions of a store, one of which is looked at, the pages that were read, and the deeds done."""

from fewfetches.deeds import EDITS, check_deed, questions_in
from fewfetches.engine import Engine, run_engine
from fewfetches.errors import FetchError, NotKnown, NotNewest, NothingCut, Unfit
from fewfetches.knowledge import Known
from fewfetches.least import more_known
from fewfetches.papers import paper_of
from fewfetches.policies import policy_of, run_policy
from fewfetches.questions import frozen
from fewfetches.relevant import determined
from fewfetches.shared import Shared
from fewfetches.statuses import check_dead, read_partial
from fewfetches.versions import first_version, standing, version_at


class Trial:
    """A result: what deeds would tell, and the place of the first that would be refused, or None."""

    def __init__(self, tolds, refused):
        self.tolds = tolds
        self.refused = refused

    def __eq__(self, other):
        return isinstance(other, Trial) and self.tolds == other.tolds and self.refused == other.refused


def _many_names(rounds):
    """How many page names stand in the rounds."""
    return sum([len(names) for names in rounds])


def _edited(version, deed):
    """The version that the edit makes."""
    word, name = deed[:2]
    if word == "put":
        return version.put_row(name, deed[2])
    if word == "remove":
        return version.remove_row(name, deed[2])
    if word == "flush":
        return version.flush(name, deed[2])
    if word == "compact":
        return version.compact(name, deed[2])
    return version.relay(name, deed[2], deed[3], deed[4])


def _edit(desk, deed):
    newest = desk.versions[-1]
    later = _edited(newest, deed)
    desk.known = Known(later.store.shape, standing(desk.known.entries, newest, later))
    desk.versions = desk.versions + (later,)
    desk.number = later.number
    return later.number


def _look_at(desk, deed):
    version = version_at(desk.versions[-1], deed[1])
    here = desk.versions[desk.number]
    if version.number < here.number:
        kept = [entry for entry in version.store.each_entry() if _leads_to_known(entry, version, here, desk.known)]
    else:
        kept = standing(desk.known.entries, here, version)
    desk.known = Known(version.store.shape, kept)
    desk.number = version.number
    return desk.known.many


def _leads_to_known(entry, elder, later, known):
    """Whether the entry of the elder version stands in the later one as a page that is known there."""
    for name, layer, index, page in standing((entry,), elder, later):
        return known.has(name, layer, index, page.first)
    return False


def _read(desk, deed):
    _, name, layer, index, row = deed
    store = desk.versions[desk.number].store
    page_name = store.place_of(name, layer, index, row)
    desk.known = desk.known.with_page((name, layer, index, store.read(name, layer, index, row)))
    return page_name


def _forget(desk, deed):
    store = desk.versions[desk.number].store
    names = [store.place_of(name, layer, index, row) for name, layer, index, row in deed[1]]
    for at, (name, layer, index, row) in enumerate(names):
        if not desk.known.has(name, layer, index, row):
            raise NotKnown(at)
    before = desk.known.many
    desk.known = desk.known.without(names)
    return before - desk.known.many


def _answer(desk, question):
    """The answer by an engine, with the numbers of its rounds and pages."""
    run = run_engine(question, desk.versions[desk.number].store, desk.known)
    desk.known = run.known
    return run.answer, len(run.rounds), _many_names(run.rounds)


def _ask(desk, deed):
    return _answer(desk, deed[1])


def _resume(desk, deed):
    told = _answer(desk, desk.halted)
    desk.halted = None
    return told


def _cut(desk, deed):
    _, question, many = deed
    store = desk.versions[desk.number].store
    engine = Engine(question, desk.known)
    while not engine.done and len(engine.reads) < many:
        name, layer, index, row = engine.next_reads()[0]
        engine.give((name, layer, index, store.read(name, layer, index, row)))
    # the engine reads its round to the end, but its pages may tell the answer ahead of that
    told = determined(question, engine.known)
    desk.known = engine.known
    desk.halted = question if told is None else None
    return told, len(engine.reads)


def _by(desk, deed):
    _, policy, question = deed
    store = desk.versions[desk.number].store
    log = run_policy(policy_of(policy), question, store, desk.known)
    desk.known = more_known(store, desk.known, log.gained)
    return log.answer, len(log.gained)


def _share(desk, deed):
    shared = Shared(deed[1], desk.versions[desk.number].store, desk.known)
    answers = shared.finish()
    desk.known = shared.known
    return answers, len(shared.rounds), _many_names(shared.rounds)


def _partial(desk, deed):
    _, question, dead = deed
    partial = read_partial(question, desk.versions[desk.number].store, desk.known, dead)
    desk.known = partial.known
    return partial.sure, partial.never, partial.doubt


def _paper(desk, deed):
    return paper_of(deed[1], desk.known)


# each of these does a deed of this word and returns what it tells; if it raises, it has changed nothing
DOING = {"put": _edit, "remove": _edit, "flush": _edit, "compact": _edit, "relay": _edit, "at": _look_at,
         "read": _read, "forget": _forget, "ask": _ask, "resume": _resume, "cut": _cut, "by": _by, "share": _share,
         "partial": _partial, "paper": _paper}


def check_fit(desk, question):
    """Raises Unfit(name) for the first table of the question that the version looked at has not with these widths."""
    tables = [(name, widths) for name, widths, _ in desk.versions[desk.number].store.shape]
    for name, widths in question.tables:
        if (name, widths) not in tables:
            raise Unfit(name)


class Desk:
    """Versions of a store, with the pages that are known of the one that is looked at."""

    def __init__(self, store, kinds, room):
        self.versions = (first_version(store, kinds, room),)
        self.number = 0
        self.known = Known(store.shape)
        self.halted = None
        self.log = ()

    def __len__(self):
        return len(self.log)

    def __iter__(self):
        return iter(self.log)

    def __eq__(self, other):
        return (isinstance(other, Desk) and self.versions == other.versions and self.number == other.number
                and self.known == other.known and self.halted == other.halted)

    def do_deed(self, deed):
        """Does the deed and returns what it tells; raises the first error that is due and changes nothing then."""
        check_deed(deed)
        word = deed[0]
        if word in EDITS and self.number != self.versions[-1].number:
            raise NotNewest()
        if word == "resume" and self.halted is None:
            raise NothingCut()
        self._check_parts(deed)
        action = DOING[word]
        told = action(self, deed)
        self.log = self.log + ((frozen(deed), told),)
        return told

    def _check_parts(self, deed):
        """Raises BadPolicy(), Unfit(name), BadDead(at)."""
        if deed[0] == "by":
            policy_of(deed[1])
        questions = (self.halted,) if deed[0] == "resume" else questions_in(deed)
        for question in questions:
            check_fit(self, question)
        if deed[0] == "partial":
            check_dead(self.known.shape, deed[2])

    def trial_deeds(self, deeds):
        """What the deeds would tell, up to the first that would be refused; the desk does not change."""
        other = self._twin()
        tolds = []
        for at, deed in enumerate(deeds):
            try:
                tolds.append(other.do_deed(deed))
            except FetchError:
                return Trial(tuple(tolds), at)
        return Trial(tuple(tolds), None)

    def _twin(self):
        """An equal desk that goes its own way, with a log of its own."""
        first = self.versions[0]
        other = Desk(first.store, first.kinds, first.room)
        other.versions = self.versions
        other.number = self.number
        other.known = self.known
        other.halted = self.halted
        return other
