"""Searches: the least course to what is looked for, by breadth, or all that is come to where there is none."""

from hearthrules.courses import plain
from hearthrules.houses import all_outer


def course_to(house, ahead, node, last):
    """Tell the course to a node and one moment more, AHEAD telling whence each node was first come to."""
    outers = [last]
    while ahead[node] is not None:
        node, outer = ahead[node]
        outers.append(outer)
    return plain(house, tuple(outers[::-1]))


def search(house, first, moments_of):
    """Tell the least course that finds what is looked for, None where none does, and the list of nodes come to.

    MOMENTS_OF tells of a node a list of (NODE BEHIND, FOUND), one for each way of the outer values, in order.
    """
    outers = all_outer(house)
    ahead = {first: None}
    reached = [first]
    at = 0
    # Nodes stand in the order of the least courses to them, so what is found first is found on the least course.
    while at < len(reached):
        node = reached[at]
        rows = moments_of(node)
        for outer, (behind, found) in zip(outers, rows):
            if found:
                return course_to(house, ahead, node, outer), reached
            if behind not in ahead:
                ahead[behind] = (node, outer)
                reached.append(behind)
        at += 1
    return None, reached
