"""The shortest walks of a way, and the levels that show that none is shorter."""

from webstore.errors import NoWalk, TooMany
from webstore.walks import Maze, need_ends

MOST_WALKS = 200


def shortest(store, way, a, b):
    """(the fewest legs of walks of the way from a to b, the rising list of all walks with so many)."""
    need_ends(store, a, b)
    maze = Maze(store, way, [a])
    left = maze.left_to(b, maze.legs)
    most = fewest_legs(maze, a, left)
    return (most, walks_within(maze, a, b, left, most))


def levels(store, way, a, b):
    """As many lists of pairs (place, way) as the fewest legs are: in each what is come to by so many legs first."""
    need_ends(store, a, b)
    maze = Maze(store, way, [a])
    most = fewest_legs(maze, a, maze.left_to(b, maze.legs))
    found = [[] for at in range(most)]
    for pair in maze.onward:
        if maze.depth[pair] < most:
            found[maze.depth[pair]].append((pair[0], maze.book.way_of(pair[1])))
    return found


def fewest_legs(maze, a, left):
    """The fewest legs of walks from a, where left tells how many are left; refused where there is no walk."""
    if (a, maze.first) not in left:
        raise NoWalk(f"no walk of the way leads there from place {a}")
    return left[(a, maze.first)]


def walks_within(maze, a, b, left, most):
    """The rising list of all walks from a to b of at most so many legs; refused where there are too many.

    left tells how many legs are left at least: so each row of legs that is gone on with is the head of some walk.
    """
    found = []
    heads = [((), (a, (maze.first,)))]
    room = most
    while heads:
        found = found + [walk for walk, state in heads if maze.is_end(state, b)]
        room -= 1
        heads = [(walk + (leg,), ahead) for walk, state in heads for leg, ahead in maze.further(state, left, room)]
        if len(found) + len(heads) > MOST_WALKS:
            raise TooMany(f"there are more than {MOST_WALKS} walks")
    return found
