"""Tables put into groups: one row for each group, with what is counted in it."""

from webstore.joins import picked
from webstore.tables import cell_key, column_of, made_table


def grouped(table, keys, counts):
    """A row for each unlike cells of the keys' columns: these, and what each (what, name, new) of counts tells."""
    places = [column_of(table, key) for key in keys]
    # "rows" looks at no column, so its name need not be one.
    looks = [(what, None if what == "rows" else column_of(table, name)) for what, name, new in counts]
    groups = {} if places else {(): []}
    for row in table[1]:
        groups.setdefault(picked(row[0], places), []).append(row)
    found = {cells + tuple([told_of(rows, what, at) for what, at in looks]): 1 for cells, rows in groups.items()}
    return made_table(list(keys) + [new for what, name, new in counts], found)


def told_of(rows, what, at):
    """What one count tells of the rows of a group, by the column at its place."""
    if what == "rows":
        return sum([count for cells, count in rows])
    if what == "sum":
        return sum([cells[at] * count for cells, count in rows if isinstance(cells[at], int)])
    values = [cells[at] for cells, count in rows if cells[at] is not None]
    if what == "kinds":
        return len(set(values))
    if what == "least":
        return min(values, key=cell_key, default=None)
    return max(values, key=cell_key, default=None)
