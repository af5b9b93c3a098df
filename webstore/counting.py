"""How many walks of a way there are, and all of them."""

from webstore.errors import Endless
from webstore.shortest import walks_within
from webstore.walks import Maze, need_ends


def how_many(store, way, a, b):
    """The number of all walks of the way from a to b; refused where there is no end of them."""
    maze, left = maze_with_end(store, way, a, b)
    return count_within(maze, a, b, left, len(left))


def all_walks(store, way, a, b):
    """The rising list of all walks of the way from a to b; refused where there is no end of them, or too many."""
    maze, left = maze_with_end(store, way, a, b)
    return walks_within(maze, a, b, left, len(left))


def maze_with_end(store, way, a, b):
    """The maze of the way from a, and the fewest legs left to b; refused where there is no end of walks.

    Where there is one no walk comes to a pair twice, so none has as many legs as there are pairs.
    """
    need_ends(store, a, b)
    maze = Maze(store, way, [a])
    left = maze.left_to(b, maze.legs)
    lasting = lasting_pairs(maze, left)
    if (a, maze.first) in lasting:
        raise Endless(loop_from(maze, a, left, lasting))
    return (maze, left)


def lasting_pairs(maze, left):
    """The pairs of left from which one can go on in left without end, as a dict of True.

    Those from which one can't go on are taken away, again and again; what is left leads into a ring.
    """
    lasting = {pair: True for pair in left}
    open_legs = {pair: len([leg for leg, ahead in maze.onward[pair] if ahead in left]) for pair in left}
    queue = [pair for pair in left if open_legs[pair] == 0]
    at = 0
    while at < len(queue):
        here = queue[at]
        del lasting[here]
        # All that leads to a pair of left is in left, too.
        for pair in maze.behind[here]:
            open_legs[pair] -= 1
            if open_legs[pair] == 0:
                queue.append(pair)
        at += 1
    return lasting


def loop_from(maze, a, left, lasting):
    """(head, ring, tail): from a along lasting pairs until one comes again, and from there to the end."""
    pair = (a, maze.first)
    came_at = {}
    legs = []
    while pair not in came_at:
        came_at[pair] = len(legs)
        links = [link for link in maze.onward[pair] if link[1] in lasting]
        leg, pair = links[0]
        legs.append(leg)
    at = came_at[pair]
    return (tuple(legs[:at]), tuple(legs[at:]), maze.short_walk(pair, left))


def count_within(maze, a, b, left, most):
    """The number of all walks from a to b of at most so many legs, counted by the states that they come to."""
    total = 0
    heads = {(a, (maze.first,)): 1}
    room = most
    while heads:
        total += sum([count for state, count in heads.items() if maze.is_end(state, b)])
        room -= 1
        grown = {}
        for state, count in heads.items():
            for leg, ahead in maze.further(state, left, room):
                grown[ahead] = grown.get(ahead, 0) + count
        heads = grown
    return total
