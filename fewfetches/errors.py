"""The errors: each kind of failure has a class of its own, straight under FetchError."""


class FetchError(ValueError):
    """What all errors of the package are."""


class BadWidths(FetchError):
    """The widths are not those of a table."""


class BadRow(FetchError):
    """The thing is no row of its table."""

    def __init__(self, row):
        self.row = row


class BadBox(FetchError):
    """The lows and highs make no box."""

    def __init__(self, what, at):
        self.what = what
        self.at = at


class UnlikeBoxes(FetchError):
    """Two boxes have unlike numbers of columns."""


class BadColumn(FetchError):
    """The boxes have no such column."""

    def __init__(self, column):
        self.column = column


class BadData(FetchError):
    """The thing is no data."""


class BadText(FetchError):
    """The text can not be read on from this place."""

    def __init__(self, place):
        self.place = place


class BadPage(FetchError):
    """The place and marks make no page."""

    def __init__(self, what):
        self.what = what


class BadIndex(FetchError):
    """No index can be made of these."""

    def __init__(self, what):
        self.what = what


class BadLayer(FetchError):
    """The indexes make no layer."""

    def __init__(self, what, at):
        self.what = what
        self.at = at


class NoIndex(FetchError):
    """The layer has no such index."""

    def __init__(self, index):
        self.index = index


class BadTable(FetchError):
    """The layers make no table."""

    def __init__(self, what, at):
        self.what = what
        self.at = at


class NoLayer(FetchError):
    """The table has no such layer."""

    def __init__(self, layer):
        self.layer = layer


class BadStore(FetchError):
    """The tables make no store."""

    def __init__(self, what, at):
        self.what = what
        self.at = at


class NoTable(FetchError):
    """There is no table of this name."""

    def __init__(self, name):
        self.name = name


class BadChange(FetchError):
    """The item at this place is no change."""

    def __init__(self, at):
        self.at = at


class BadKinds(FetchError):
    """The kinds do not fit the indexes."""


class LayersFull(FetchError):
    """The table has as many layers as it may."""

    def __init__(self, name):
        self.name = name


class BadNumber(FetchError):
    """There is no version of this number."""

    def __init__(self, number):
        self.number = number


class NotBefore(FetchError):
    """The one version was not made from the other."""


class BadQuestion(FetchError):
    """The parts make no question."""

    def __init__(self, what, at):
        self.what = what
        self.at = at


class Again(FetchError):
    """The page is known already."""


class Foreign(FetchError):
    """No store holds the page beside the known ones."""


class NoPage(FetchError):
    """There is no page of this name."""

    def __init__(self, name):
        self.name = name


class NoFactor(FetchError):
    """No factor is promised for the question."""

    def __init__(self, what):
        self.what = what


class NotUniform(FetchError):
    """The box is not settled at once."""


class NotDecided(FetchError):
    """The point is not decided."""


class Undetermined(FetchError):
    """The answer is not determined."""


class BadPaper(FetchError):
    """The judge does not take the paper."""

    def __init__(self, line, what):
        self.line = line
        self.what = what


class NotDone(FetchError):
    """The engine has no answer yet."""


class Unasked(FetchError):
    """The page was not asked for."""


class TooMany(FetchError):
    """More pages are needed than this number."""

    def __init__(self, most):
        self.most = most


class NotEnough(FetchError):
    """The pages do not determine the answer."""


class KnownRow(FetchError):
    """The worth of the row is known already."""

    def __init__(self, name, row):
        self.name = name
        self.row = row


class BadFoe(FetchError):
    """No foe or needle can be made of these."""

    def __init__(self, what):
        self.what = what


class BadPolicy(FetchError):
    """The thing tells no policy."""


class BadDead(FetchError):
    """The item at this place is no dead index."""

    def __init__(self, at):
        self.at = at


class NoSpread(FetchError):
    """The question has no spread."""

    def __init__(self, what):
        self.what = what


class NotInDoubt(FetchError):
    """The point is not in doubt."""

    def __init__(self, point):
        self.point = point


class BadDeed(FetchError):
    """The thing is no deed."""


class NotNewest(FetchError):
    """An elder version is looked at."""


class NothingCut(FetchError):
    """No question was cut."""


class Unfit(FetchError):
    """The question does not fit this table."""

    def __init__(self, name):
        self.name = name


class NotKnown(FetchError):
    """The page of the read at this place is not known."""

    def __init__(self, at):
        self.at = at


class BadStory(FetchError):
    """The line can not stand in the story."""

    def __init__(self, line):
        self.line = line
