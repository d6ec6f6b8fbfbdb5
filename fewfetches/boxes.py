"""Boxes: the points between lows and highs, and how boxes meet, join and are cut out."""

from fewfetches.columns import is_sequence, is_whole
from fewfetches.errors import BadBox, BadColumn, UnlikeBoxes

MOST_BOX_COLUMNS = 5
TOP = 64


class Box:
    """The points whose value in each column is the low or more and less than the high."""

    def __init__(self, lows, highs):
        if not is_sequence(lows, 0, MOST_BOX_COLUMNS):
            raise BadBox("lows", 0)
        if not is_sequence(highs, len(lows), len(lows)):
            raise BadBox("highs", 0)
        size = 1
        for column, (low, high) in enumerate(zip(lows, highs)):
            if not is_whole(low, 0, TOP - 1):
                raise BadBox("low", column)
            if not is_whole(high, low + 1, TOP):
                raise BadBox("high", column)
            size = size * (high - low)
        self.lows = tuple(lows)
        self.highs = tuple(highs)
        self.size = size
        self.told = (self.lows, self.highs)

    def holds(self, point):
        """Whether the sequence of integers is one of the points."""
        if len(point) != len(self.lows):
            return False
        for value, low, high in zip(point, self.lows, self.highs):
            if not low <= value < high:
                return False
        return True

    @classmethod
    def of_told(cls, told):
        """The box of which this is the told."""
        return cls(told[0], told[1])

    def __eq__(self, other):
        return isinstance(other, Box) and self.lows == other.lows and self.highs == other.highs


def whole_box(widths):
    """The box from zeros to the widths."""
    return Box([0] * len(widths), widths)


def points_of(box):
    """Yields the points of the box in ascending order."""
    point = list(box.lows)
    for _ in range(box.size):
        yield tuple(point)
        column = len(point) - 1
        while column >= 0 and point[column] == box.highs[column] - 1:
            point[column] = box.lows[column]
            column -= 1
        # behind the last point every column has gone back to its low
        if column >= 0:
            point[column] += 1


def _check_alike(one, other):
    if len(one.lows) != len(other.lows):
        raise UnlikeBoxes()


def _common_range(one, other, column):
    """The range of the column that both boxes have; it is empty if the low is not below the high."""
    low = max(one.lows[column], other.lows[column])
    high = min(one.highs[column], other.highs[column])
    return low, high


def meet_boxes(one, other):
    """The box of all points that both hold, or None; raises UnlikeBoxes()."""
    _check_alike(one, other)
    lows = []
    highs = []
    for column in range(len(one.lows)):
        low, high = _common_range(one, other, column)
        if low >= high:
            return None
        lows.append(low)
        highs.append(high)
    return Box(lows, highs)


def join_along(one, other, column):
    """The join of two boxes along a column, or None; raises UnlikeBoxes(), BadColumn(column)."""
    _check_alike(one, other)
    if not is_whole(column, 0, len(one.lows) - 1):
        raise BadColumn(column)
    lows = []
    highs = []
    for at in range(len(one.lows)):
        low, high = _common_range(one, other, at)
        # ranges that only touch have an empty common part that begins where it ends
        if low > high or (low == high and at != column):
            return None
        if at == column:
            low = min(one.lows[at], other.lows[at])
            high = max(one.highs[at], other.highs[at])
        lows.append(low)
        highs.append(high)
    return Box(lows, highs)


def box_less(one, other):
    """Boxes with exactly the points of the first that the second does not hold; raises UnlikeBoxes()."""
    common = meet_boxes(one, other)
    if common is None:
        return (one,)
    parts = []
    lows = list(one.lows)
    highs = list(one.highs)
    for column, (low, high) in enumerate(zip(common.lows, common.highs)):
        if lows[column] < low:
            parts.append(_with_range(lows, highs, column, (lows[column], low)))
        if high < highs[column]:
            parts.append(_with_range(lows, highs, column, (high, highs[column])))
        lows[column] = low
        highs[column] = high
    return tuple(sorted(parts, key=lambda part: part.lows))


def _with_range(lows, highs, column, part):
    """The box from lows to highs, with another range in one column."""
    low, high = part
    return Box(lows[:column] + [low] + lows[column + 1:], highs[:column] + [high] + highs[column + 1:])
