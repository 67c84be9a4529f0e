"""What comes: clashes, restless moments and doings, with the least course to each, or that it never does."""

from hearthrules.errors import NoThing
from hearthrules.houses import all_outer, are_inner_names
from hearthrules.machines import made, refuse_many
from hearthrules.moments import first_standing, moment
from hearthrules.searches import search


def first_coming(book, event):
    """Tell the least course in whose last moment the event is so, or that it never is."""
    refuse_many(book)
    outers = all_outer(book.house)

    def moments_of(standing):
        told = [moment(book, standing, outer) for outer in outers]
        return [(one.standing, event(one)) for one in told]

    course, reached = search(book.house, first_standing(book), moments_of)
    if course is None:
        return "never", tuple(sorted(reached))
    return "comes", course


def doers(told):
    """Tell the names of the rules of a moment's doings."""
    return [name for row in told.doings for name in row[3]]


def clash(book, thing=None):
    """Tell whether rules ever clash, over THING, of any kind, where it is told."""
    if thing is None:
        return first_coming(book, lambda told: told.clashes != ())
    if not are_inner_names(book.house, (thing,)):
        raise NoThing(thing)
    return first_coming(book, lambda told: thing in [name for name, rules in told.clashes])


def restless(book):
    """Tell whether a moment is ever restless."""
    return first_coming(book, lambda told: told.restless)


def doing(book, name):
    """Tell whether the rule of this name, which may be of any kind, ever does something."""
    rule = book.named(name)
    return first_coming(book, lambda told: rule.name in doers(told))


def silent(book):
    """Tell the names of the rules that never do anything, rising."""
    outers = all_outer(book.house)
    heard = [name for standing in made(book).standings for outer in outers
             for name in doers(moment(book, standing, outer))]
    return tuple([rule.name for rule in book.rules if rule.name not in heard])
