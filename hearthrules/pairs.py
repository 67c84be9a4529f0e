"""Two books: whether they do alike, or the least course that parts them."""

from hearthrules.errors import NoPair
from hearthrules.machines import made
from hearthrules.searches import search


def compared(one, two):
    """Tell ("parted", COURSE) of two machines of one house, or ("alike", PAIRS), all pairs that come together."""

    def moments_of(pair):
        return [((first[0], second[0]), first[1] != second[1])
                for first, second in zip(one.table[pair[0]], two.table[pair[1]])]

    course, reached = search(one.house, (0, 0), moments_of)
    if course is not None:
        return "parted", course
    return "alike", tuple(sorted([(one.standings[first], two.standings[second]) for first, second in reached]))


def both_made(book, other):
    """Tell the machines of two books of one house."""
    if book.house != other.house:
        raise NoPair("the books' houses aren't alike")
    return made(book), made(other)


def parted(book, other):
    """Tell the least course that parts two books, None where they do alike."""
    one, two = both_made(book, other)
    word, paper = compared(one, two)
    return paper if word == "parted" else None
