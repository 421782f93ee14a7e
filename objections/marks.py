"""Labels as marks: a pair of masks, of who is in and of who is out; all others are undecided."""

from objections.checks import is_word

LABELS = ("in", "out", "undecided")


def rows_of(labels, many):
    """All rows of so many of the labels, ascending as these are."""
    rows = [()]
    for _ in range(many):
        rows = [row + (label,) for row in rows for label in labels]
    return rows


def has_row(one, other):
    """Whether a row of labels has another one's in's and out's in the same places."""
    return all([label == "undecided" or label == mine for mine, label in zip(one, other)])


def least_rows(rows):
    """Those of unlike rows that have no other one."""
    least = []
    for row in sorted(rows, key=lambda row: len(row) - row.count("undecided")):
        if not any([has_row(row, other) for other in least]):
            least.append(row)
    return least


def marks_of(row, places):
    """The marks of a row of labels, one for each of the places."""
    ins = 0
    outs = 0
    for label, place in zip(row, places):
        if label == "in":
            ins = ins | (1 << place)
        elif label == "out":
            outs = outs | (1 << place)
    return (ins, outs)


def row_at(marks, places):
    """The row of the labels that some places have."""
    ins, outs = marks
    return tuple([
        "in" if ins >> place & 1 else "out" if outs >> place & 1 else "undecided" for place in places
    ])


def labels_by(names, marks):
    """The dict from names, each standing at its place, to their labels."""
    return dict(zip(names, row_at(marks, list(range(len(names))))))


def read_marks(names, thing):
    """The marks of a dict from just these names to labels, None for any other object."""
    if not isinstance(thing, dict) or len(thing) != len(names):
        return None
    if not all([name in thing and is_word(thing[name], LABELS) for name in names]):
        return None
    return marks_of([thing[name] for name in names], list(range(len(names))))
