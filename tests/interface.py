"""The names and parameters of the interface that have landed."""

FUNCTIONS = {
    ("columns", "is_whole"): "(thing, low=None, high=None)",
    ("columns", "is_name"): "(thing)",
    ("columns", "check_widths"): "(widths)",
    ("columns", "check_row"): "(widths, row)",
    ("columns", "row_count"): "(widths)",
    ("columns", "row_number"): "(widths, row)",
    ("columns", "row_at"): "(widths, number)",
    ("boxes", "whole_box"): "(widths)",
    ("boxes", "points_of"): "(box)",
    ("boxes", "meet_boxes"): "(one, other)",
    ("boxes", "join_along"): "(one, other, column)",
    ("boxes", "box_less"): "(one, other)",
    ("pages", "slabs_of"): "(rows)",
    ("pages", "check_marks"): "(marks)",
    ("pages", "check_changes"): "(changes)",
    ("partings", "parting_fault"): "(widths, pages)",
    ("partings", "page_at"): "(pages, row)",
    ("partings", "ordered_pages"): "(pages)",
    ("partings", "marks_of"): "(pages)",
    ("partings", "is_finer"): "(pages, others)",
    ("layouts", "check_kind"): "(kind, widths)",
    ("layouts", "check_room"): "(room)",
    ("layouts", "row_key"): "(kind, row)",
    ("layouts", "first_places"): "(kind, widths)",
    ("layouts", "cut_rows"): "(kind, rows, marked)",
}

METHODS = {
    ("boxes", "Box", "__init__"): "(self, lows, highs)",
    ("boxes", "Box", "holds"): "(self, point)",
    ("boxes", "Box", "of_told"): "(cls, told)",
    ("boxes", "Box", "__eq__"): "(self, other)",
    ("pages", "Page", "__init__"): "(self, place, marks=())",
    ("pages", "Page", "holds"): "(self, row)",
    ("pages", "Page", "mark"): "(self, row)",
    ("pages", "Page", "with_marks"): "(self, changes)",
    ("pages", "Page", "of_told"): "(cls, told)",
    ("pages", "Page", "__eq__"): "(self, other)",
}

PROPERTIES = []

CLASSES = [("errors", "FetchError"), ("boxes", "Box"), ("pages", "Page")]
