"""The checker of laid rows: it looks at the row and at the walks alone."""

from webstore.patterns import is_so, spots_of, stands
from webstore.walks import Maze, gone, is_walk


def shows_laid(store, pattern, row, told):
    """Whether a row lays a pattern, and told is a list with a walk for each bow, by its sort."""
    spots, bows, pairs = pattern
    if not stands(store, spots, row):
        return False
    if not all([is_so(store, pair, row[spots_of(pair)[0]], row[spots_of(pair)[1]]) for pair in pairs]):
        return False
    if not isinstance(told, (list, tuple)) or len(told) != len(bows):
        return False
    return all([is_walk_of(store, bow, row[bow[0]], row[bow[1]], walk) for bow, walk in zip(bows, told)])


def is_walk_of(store, bow, a, b, thing):
    """Whether a thing is a walk from a to b that counts for a bow, by its sort."""
    sort, way = bow[2:]
    if not is_walk(store, way, a, b, thing):
        return False
    if sort == "short":
        return len(thing) == fewest_legs(store, way, a, b)
    if sort == "plain":
        places = [a] + [gone(store, leg)[2] for leg in thing]
        return len(set(places)) == len(places)
    return True


def fewest_legs(store, way, a, b):
    """The fewest legs of walks of the way from a to b, where there is one."""
    maze = Maze(store, way, [a])
    return maze.left_to(b, maze.legs)[(a, maze.first)]
