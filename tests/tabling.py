"""Tables to try, and what the document's words say of them, found in another manner."""

from making import is_number
from webstore.values import is_name

CELLS = (None, -3, 0, 1, 2, 10, "", "1", "a", "b", "x y")
PEOPLE = (("who", "age", "town"), (((0, None, "bern"), 1), ((1, 30, "bern"), 2), ((2, 7, "thun"), 1), ((3, 30, None), 4),
                                    (("x", "old", "thun"), 3)))
EMPTY_TABLE = (("a", "b"), ())
NO_COLUMNS = ((), (((), 5),))
NOTHING = ((), ())


def order_of(cell):
    """The place of a cell in the order of cells."""
    return (cell is not None, isinstance(cell, str), 0 if cell is None else cell)


def table_from(names, counts):
    """The table of a dict from cells to counts."""
    return (tuple(names), tuple(sorted(counts.items(), key=lambda row: [order_of(cell) for cell in row[0]])))


def counts_of(table):
    return dict(table[1])


def is_cell(thing):
    return thing is None or is_number(thing) or isinstance(thing, str)


def judged(thing):
    """Whether a thing is a table, by the words of the document."""
    if not isinstance(thing, tuple) or len(thing) != 2 or not all(isinstance(part, tuple) for part in thing):
        return False
    names, rows = thing
    if not all(is_name(name) for name in names) or any(names.count(name) > 1 for name in names):
        return False
    for row in rows:
        if not isinstance(row, tuple) or len(row) != 2 or not isinstance(row[0], tuple) or len(row[0]) != len(names):
            return False
        if not all(is_cell(cell) for cell in row[0]) or not is_number(row[1]) or row[1] < 1:
            return False
    return all(stands_ahead(one[0], other[0]) for one, other in zip(rows, rows[1:]))


def stands_ahead(one, other):
    """Whether cells stand ahead of others: by the first in which they are unlike."""
    for cell, bound in zip(one, other):
        if (cell, type(cell)) != (bound, type(bound)):
            if cell is None or bound is None:
                return cell is None
            if isinstance(cell, str) != isinstance(bound, str):
                return isinstance(bound, str)
            return cell < bound
    return False


def random_table(chance, names, most=8, cells=(None, 0, 1, "x")):
    """A table of these columns, with few unlike cells."""
    counts = {}
    for _ in range(chance.randrange(most + 1)):
        counts[tuple(chance.choice(cells) for _ in names)] = chance.choice((1, 2, 5, 10 ** 14))
    return table_from(names, counts)
