"""Runs: a course gone through moment by moment, with hands, failing things, and books that change."""

from hearthrules.books import Book
from hearthrules.errors import NoChange, NoPair
from hearthrules.houses import names_of
from hearthrules.moments import first_standing, moment, values_set
from hearthrules.names import is_row, is_whole


def is_change(course, least, change):
    """Tell whether CHANGE, of any kind, is a row's number, LEAST or more, with a book of the course's house."""
    return (is_row(change, 2, 2) and is_whole(change[0], least, len(course) - 1)
            and isinstance(change[1], Book) and change[1].house == course.house)


def read_changes(course, changes):
    """Tell a dict from the numbers of rows to the books from there on; CHANGES may be of any kind."""
    if changes is None:
        return {}
    if not isinstance(changes, tuple):
        raise NoChange(None)
    books = {}
    least = 0
    for place, change in enumerate(changes):
        if not is_change(course, least, change):
            raise NoChange(place)
        books[change[0]] = change[1]
        least = change[0] + 1
    return books


def carried_over(book, other, standing):
    """Tell the standing of another book of the house when it comes in the place of this one."""
    counts = {rule.name: count for rule, count in zip(book.rules, standing[2])}
    kept = [counts[rule.name] if rule in book.rules else 0 for rule in other.rules]
    return standing[0], standing[1], tuple(kept)


def go_row(book, standing, held, row):
    """Tell the Moment of a row of a course, and what is held from then on."""
    outer, hands, freed, failing = row
    kept = [thing for thing in held if thing not in freed]
    now_held = tuple(sorted(set(kept + [thing for thing, value in hands])))
    aims = {thing: value for thing, value in hands if thing not in failing}
    ends = values_set(book.house, standing[1], aims)
    return moment(book, (standing[0], ends, standing[2]), outer, now_held, failing), now_held


def run(book, course, changes=None):
    """Tell the list of the Moments of a course; CHANGES may be of any kind."""
    if book.house != course.house:
        raise NoPair("the book's and the course's houses aren't alike")
    books = read_changes(course, changes)
    standing = first_standing(book)
    held = ()
    moments = []
    for number, row in enumerate(course.rows):
        if number in books:
            standing = carried_over(book, books[number], standing)
            book = books[number]
        told, held = go_row(book, standing, held, row)
        standing = told.standing
        moments.append(told)
    return moments


def moved(book, other, course, at=0):
    """Tell what a change to OTHER at row AT, both of any kind, changes of the ends: a list."""
    stayed = run(book, course)
    changed = run(book, course, ((at, other),))
    names = names_of(book.house.inner)
    return [(number, name, value, other_value)
            for number, (one, two) in enumerate(zip(stayed, changed))
            for name, value, other_value in zip(names, one.ends, two.ends) if value != other_value]
