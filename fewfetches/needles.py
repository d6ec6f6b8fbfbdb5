"""Needles: sources for the question for any one answer, where it lies at the last point that a reader looks at."""

from fewfetches.columns import row_count
from fewfetches.errors import BadFoe
from fewfetches.foes import asked_tables, check_indexes, checked_read, marked_page, source_shape
from fewfetches.formulas import all_points, asked_row
from fewfetches.layers import Layer
from fewfetches.stores import Store, Table


class Needle:
    """A source with one row in each page: every row that is read refutes, as long as some point stays untouched."""

    def __init__(self, question, indexes):
        self.question = question
        self.indexes = check_indexes(question, indexes)
        if question.kind[0] != "any":
            raise BadFoe("kind")
        self._asked = asked_tables(question)
        self.least = min([row_count([question.widths[variable] for variable in table.variables()])
                          for table in self._asked.values()])
        self.shape = source_shape(question, self.indexes)
        self.reads = ()
        # the points of which no row was read, ascending; once the needle is settled they are not needed any more
        self._untouched = list(all_points(question.widths))
        self._point = None
        # by page name: the page that was returned
        self._laid = {}

    def read(self, name, layer, index, row):
        """The page that holds the row; raises NoTable(name), NoLayer(layer), NoIndex(index), BadRow(row)."""
        checked = checked_read(self.shape, name, layer, index, row)
        page_name = (name, layer, index, checked)
        if page_name not in self._laid:
            self._touch(name, checked)
            self._laid[page_name] = self._page(name, checked, self._point)
            self.reads = self.reads + (page_name,)
        return self._laid[page_name]

    def _touch(self, name, row):
        """Takes away the points that ask the row; the needle is settled when none would be left."""
        if self._point is not None or name not in self._asked:
            return
        terms = self._asked[name].terms
        left = [point for point in self._untouched if asked_row(terms, point) != row]
        if len(left) == 0:
            self._point = self._untouched[0]
        self._untouched = left

    def _page(self, name, row, point):
        """The page of one row if the needle lies at this point; None for nowhere yet."""
        if name not in self._asked:
            return marked_page([row], None)
        asked = self._asked[name]
        return marked_page([row], asked.mark(point is not None and asked_row(asked.terms, point) == row))

    def answer_point(self):
        """The point of the needle, or the first untouched one if it is not settled yet."""
        return self._untouched[0] if self._point is None else self._point

    def now_store(self):
        """The store if nothing more is read."""
        point = self.answer_point()
        tables = []
        for name, widths, counts in self.shape:
            index = [self._page(name, row, point) for row in list(all_points(widths))]
            tables.append(Table(name, [Layer(widths, [index for _ in range(counts[0])])]))
        return Store(tables)

    def enough_names(self):
        """The names of the pages of the rows of the needle's point in index 0, ascending."""
        point = self.answer_point()
        return tuple(sorted([(asked.name, 0, 0, asked_row(asked.terms, point)) for asked in self._asked.values()]))

