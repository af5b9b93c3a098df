"""Tables put side by side, by the columns that both have."""

from webstore.tables import made_table


def joined(one, other):
    """Rows of one with rows of other whose cells in the columns that both have are the same values."""
    return side_by_side(one, other, False)


def kept(one, other):
    """Rows as joined tells them, and each row of one without such a mate, with None in the further columns."""
    return side_by_side(one, other, True)


def lonely(one, other):
    """The rows of one without such a mate."""
    rows = [row for row, mates in with_mates(one, other) if not mates]
    return (one[0], tuple(rows))


def side_by_side(one, other, with_lonely):
    """One's columns, then those of other that one has not: rows with their mates, and those without, if wanted."""
    further = [at for at, name in enumerate(other[0]) if name not in one[0]]
    nothing = tuple([None for at in further])
    counts = {}
    for (cells, count), mates in with_mates(one, other):
        for more, times in mates:
            counts[cells + picked(more, further)] = count * times
        if with_lonely and not mates:
            counts[cells + nothing] = count
    return made_table(one[0] + picked(other[0], further), counts)


def with_mates(one, other):
    """Each row of one, with the list of its mates: rows of other with the same values in the columns of both."""
    shared = [name for name in one[0] if name in other[0]]
    here = [one[0].index(name) for name in shared]
    there = [other[0].index(name) for name in shared]
    rows_by = {}
    for row in other[1]:
        rows_by.setdefault(picked(row[0], there), []).append(row)
    found = []
    for row in one[1]:
        values = picked(row[0], here)
        # None is the same as nothing, not as None either.
        found.append((row, [] if None in values else rows_by.get(values, [])))
    return found


def picked(cells, places):
    """The cells at these places."""
    return tuple([cells[at] for at in places])
