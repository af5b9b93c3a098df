"""Tables: rows of cells under names, each row with its count."""

from webstore.asking import ask
from webstore.errors import NoColumn
from webstore.values import before, is_name, is_number, is_value, same_sort


def is_table(thing):
    """Whether a thing is a table: a tuple (names, rows)."""
    if not isinstance(thing, tuple) or len(thing) != 2:
        return False
    names, rows = thing
    if not isinstance(names, tuple) or not isinstance(rows, tuple):
        return False
    if not all([is_name(name) for name in names]) or len(set(names)) != len(names):
        return False
    if not all([is_row(row, len(names)) for row in rows]):
        return False
    keys = [cells_key(cells) for cells, count in rows]
    return all([one < other for one, other in zip(keys, keys[1:])])


def is_row(thing, many):
    """Whether a thing is a row of a table of so many columns: (cells, count)."""
    if not isinstance(thing, tuple) or len(thing) != 2:
        return False
    cells, count = thing
    if not isinstance(cells, tuple) or len(cells) != many:
        return False
    return all([cell is None or is_value(cell) for cell in cells]) and is_number(count) and count > 0


def cells_key(cells):
    """What cells are sorted by: None ahead of numbers, these ahead of texts."""
    return [cell_key(cell) for cell in cells]


def cell_key(cell):
    """What one cell is sorted by."""
    if cell is None:
        return (0, 0)
    return (2, cell) if isinstance(cell, str) else (1, cell)


def made_table(names, counts):
    """The table of a dict from cells to their counts."""
    return (tuple(names), tuple(sorted(counts.items(), key=lambda row: cells_key(row[0]))))


def column_of(table, name):
    """The place of a column among the columns; refused where there is none of that name."""
    if name not in table[0]:
        raise NoColumn(f"there is no column {name}")
    return table[0].index(name)


def table_of(store, pattern, names):
    """The table of what a pattern is answered, with a name for each spot; refused as ask is."""
    return (tuple(names), tuple(ask(store, pattern)))


def columns(table, names):
    """These columns of a table, in this order; counts of rows that come to be alike are summed."""
    places = [column_of(table, name) for name in names]
    counts = {}
    for cells, count in table[1]:
        kept = tuple([cells[at] for at in places])
        counts[kept] = counts.get(kept, 0) + count
    return made_table(names, counts)


def where(table, name, sign, value):
    """The rows whose cell in a column is the value ("="), or of its sort and ahead of it ("<"), behind it (">")."""
    at = column_of(table, name)
    return (table[0], tuple([row for row in table[1] if is_there(row[0][at], sign, value)]))


def is_there(cell, sign, value):
    """Whether a cell stands to a value as a sign says."""
    if cell is None or not same_sort(cell, value):
        return False
    if sign == "=":
        return cell == value
    return before(cell, value) if sign == "<" else before(value, cell)


def with_field(store, table, name, field, new):
    """A table with a column more, at the end: the field of the place that the cell in a column is the number of."""
    at = column_of(table, name)
    if new in table[0]:
        raise NoColumn(f"there is a column {new} already")
    rows = [(cells + (field_of(store, cells[at], field),), count) for cells, count in table[1]]
    return (table[0] + (new,), tuple(rows))


def field_of(store, cell, field):
    """The field of the place that a cell is the number of; None where there is no such place or field."""
    if cell not in store.places():
        return None
    return dict(store.place(cell)[1]).get(field)


def added(one, other):
    """Two tables with the same columns as one, counts of alike rows summed."""
    need_same_columns(one, other)
    counts = dict(one[1])
    for cells, count in other[1]:
        counts[cells] = counts.get(cells, 0) + count
    return made_table(one[0], counts)


def less(one, other):
    """A table less another one with the same columns: counts of alike rows taken away, rows where some is left."""
    need_same_columns(one, other)
    gone = dict(other[1])
    counts = {cells: count - gone.get(cells, 0) for cells, count in one[1] if count > gone.get(cells, 0)}
    return made_table(one[0], counts)


def need_same_columns(one, other):
    """Refuses two tables that haven't the same columns in the same order."""
    if one[0] != other[0]:
        raise NoColumn("the tables haven't the same columns in the same order")
