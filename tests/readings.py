"""Plain second readings, and books made by chance, for the tests of what comes of a book."""
from hearthrules.books import Book
from hearthrules.courses import Course, plain
from hearthrules.houses import House, all_outer
from hearthrules.moments import first_standing, moment
from hearthrules.rules import Rule, read_rule
from hearthrules.sayings import Saying

FOUR = ("a", "b", "c", "d")
# 2 * 4 * 4 * 4 * 4 standings without a rule: more than 400, however few rules there are.
WIDE = House((("rain", ("no", "yes")),), (("fan", FOUR), ("heat", FOUR), ("lamp", FOUR), ("stove", FOUR)), 2)


def book_of(house, *texts):
    return Book(house, tuple(read_rule(text) for text in texts))


def moments_on(book, course):
    """The moments of a course without hands and failing things."""
    standing, told = first_standing(book), []
    for row in course.rows:
        told.append(moment(book, standing, row[0]))
        standing = told[-1].standing
    return told


def plain_search(book, so, most):
    """The first of all courses of at most MOST moments, by breadth, in whose last moment SO(MOMENT, ROW)."""
    level = [((), first_standing(book))]
    for row in range(most):
        ahead, level = level, []
        for outers, standing in ahead:
            for outer in all_outer(book.house):
                told = moment(book, standing, outer)
                if so(told, row):
                    return plain(book.house, outers + (outer,))
                level.append((outers + (outer,), told.standing))
    return None


def plain_parting(book, other, most):
    """The first of all courses of at most MOST moments, by breadth, whose last ends aren't alike."""
    level = [((), first_standing(book), first_standing(other))]
    for row in range(most):
        ahead, level = level, []
        for outers, one, two in ahead:
            for outer in all_outer(book.house):
                first, second = moment(book, one, outer), moment(other, two, outer)
                if first.ends != second.ends:
                    return plain(book.house, outers + (outer,))
                level.append((outers + (outer,), first.standing, second.standing))
    return None


def standings_ahead_of(book, row, more):
    """All standings that come ahead of this row or of one of so many more, each layer by itself."""
    layer, found = {first_standing(book)}, set()
    for number in range(row + more + 1):
        if number >= row:
            found |= layer
        layer = {moment(book, standing, outer).standing for standing in layer for outer in all_outer(book.house)}
    return tuple(sorted(found))


def some_house(chance):
    """A small house, its outer values not in the order of letters."""
    outer = [(), (("rain", ("no", "yes")),), (("rain", ("wet", "dry", "mist")),)][chance.randrange(3)]
    inner = (("fan", ("off", "low", "high")), ("heat", ("on", "off")), ("lamp", ("off", "on")))
    return House(outer, inner[chance.choice([0, 1, 1, 2]):], chance.randrange(1, 4))


def some_part(chance, house):
    name, values = chance.choice(house.outer + house.inner)
    part = chance.choice([f"{name} is {chance.choice(values)}", f"hour {chance.randrange(house.hours)}"])
    return chance.choice(["", "not "]) + part


def some_saying(chance, house):
    return Saying(chance.choice([" and ", " or "]).join(some_part(chance, house) for many in range(chance.choice([1, 1, 2]))))


def some_rule(chance, house, name):
    do = tuple((thing, chance.choice(values)) for thing, values in house.inner if chance.randrange(2))
    do = do or ((house.inner[0][0], house.inner[0][1][1]),)
    unless = some_saying(chance, house) if chance.randrange(4) == 0 else None
    return Rule(name, some_saying(chance, house), do, chance.choice([0, 0, 1]), chance.choice([0, 0, 0, 1, 2]), unless)


def some_book(chance, house, most=5):
    """A book of at most MOST rules and 400 standings."""
    while True:
        book = Book(house, tuple(some_rule(chance, house, name) for name in "pqrstu"[:chance.randrange(most + 1)]))
        if book.size() <= 400:
            return book


def some_course(chance, house, many):
    """A course of MANY rows with hands, things let go and failing ones."""
    names = [name for name, values in house.inner]
    rows = []
    for number in range(many):
        hands = tuple((name, chance.choice(values)) for name, values in house.inner if chance.randrange(5) == 0)
        freed = tuple(name for name in names if name not in dict(hands) and chance.randrange(4) == 0)
        failing = tuple(name for name in names if chance.randrange(5) == 0)
        rows.append((chance.choice(all_outer(house)), hands, freed, failing))
    return Course(house, tuple(rows))
