"""Wishes: whether a saying is so in each moment, from some row on."""

from hearthrules.errors import NoBook, NoNumber
from hearthrules.houses import all_outer
from hearthrules.machines import made
from hearthrules.moments import values_by_name
from hearthrules.names import is_whole
from hearthrules.sayings import Saying, speaks_of
from hearthrules.searches import search

MOST_AFTER = 60


def search_broken(machine, saying, after):
    """Search for the least course that breaks a saying at row AFTER or behind it.

    A node is (ROW, NUMBER): a row, AFTER for all from there on, and the number of the standing ahead of it.
    """
    outers = all_outer(machine.house)

    def moments_of(node):
        row, number = node
        hour = machine.standings[number][0]
        told = []
        for outer, (behind, ends) in zip(outers, machine.table[number]):
            broken = row == after and not saying.so(hour, values_by_name(machine.house, outer, ends))
            told.append(((min(row + 1, after), behind), broken))
        return told

    return search(machine.house, (0, 0), moments_of)


def always(book, saying, after=0):
    """Tell whether a saying is so at the end of each moment from row AFTER on; both may be of any kind."""
    if not isinstance(saying, Saying) or not speaks_of(saying, book.house):
        raise NoBook(None)
    if not is_whole(after, 0, MOST_AFTER):
        raise NoNumber("this is no number of a row to begin with")
    machine = made(book)
    course, reached = search_broken(machine, saying, after)
    if course is not None:
        return "broken", course
    return "always", tuple(sorted([machine.standings[number] for row, number in reached if row == after]))
