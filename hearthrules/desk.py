"""The desk: a house that is told rows of words, and answers each with a text."""

from hearthrules.books import Book
from hearthrules.checker import holds
from hearthrules.comes import clash, doing, restless, silent
from hearthrules.courses import is_course_row
from hearthrules.errors import NoCourse, NoRow, NoThing
from hearthrules.few import fewest
from hearthrules.houses import all_outer, names_of
from hearthrules.logs import tell_moment
from hearthrules.moments import first_standing
from hearthrules.papers import paper_clash
from hearthrules.rules import read_rule
from hearthrules.runs import carried_over, go_row
from hearthrules.sayings import Saying
from hearthrules.wishes import always

DONE = "ok"
NOTHING = "none"
NO_VALUES = "-"


def tell_names(names):
    """Tell the text of names, be there none."""
    return NOTHING if names == () else " ".join(names)


def tell_outer(outer):
    """Tell the text of outer values, be there none."""
    return NO_VALUES if outer == () else ",".join(outer)


def tell_answer(answer):
    """Tell the text of an answer: its word where it has a table, the outer values where it has a course."""
    word, paper = answer
    if word in ("never", "always"):
        return word
    return " ".join([tell_outer(row[0]) for row in paper.rows])


def turn_to(desk, book):
    """Put a book in the place of the desk's own."""
    desk.standing = carried_over(desk.book, book, desk.standing)
    desk.book = book
    return DONE


def wait_for(desk, hands, freed, failing):
    """Keep what the next moment is to bring, if together it is so as a row of a course."""
    house = desk.book.house
    row = (all_outer(house)[0], tuple(sorted(hands)), tuple(sorted(freed)), tuple(sorted(failing)))
    if not is_course_row(house, row):
        raise NoCourse(None)
    desk.hands, desk.freed, desk.failing = row[1:]
    return DONE


def say_rule(desk, parts):
    """Put a rule into the book."""
    return turn_to(desk, desk.book.with_rule(read_rule(" ".join(parts))))


def say_drop(desk, parts):
    """Take a rule out of the book."""
    return turn_to(desk, desk.book.without(parts[0]))


def say_next(desk, parts):
    """Go through the next moment."""
    row = (tuple(parts), desk.hands, desk.freed, desk.failing)
    told, held = go_row(desk.book, desk.standing, desk.held, row)
    desk.standing = told.standing
    desk.held = held
    desk.hands = desk.freed = desk.failing = ()
    return tell_moment(told)


def say_hand(desk, parts):
    """Set a thing by hand at the next moment."""
    return wait_for(desk, (*desk.hands, tuple(parts)), desk.freed, desk.failing)


def say_free(desk, parts):
    """Let a thing go at the next moment."""
    return wait_for(desk, desk.hands, (*desk.freed, parts[0]), desk.failing)


def say_fail(desk, parts):
    """Let a thing fail at the next moment."""
    return wait_for(desk, desk.hands, desk.freed, (*desk.failing, parts[0]))


def say_what(desk, parts):
    """Tell the value of an inner thing."""
    names = names_of(desk.book.house.inner)
    if parts[0] not in names:
        raise NoThing(parts[0])
    return desk.standing[1][names.index(parts[0])]


def say_hour(desk, parts):
    """Tell the hour to come."""
    return str(desk.standing[0])


def say_book(desk, parts):
    """Tell the rules' texts."""
    return NOTHING if len(desk.book) == 0 else "; ".join([str(rule) for rule in desk.book.rules])


def say_clash(desk, parts):
    """Tell whether rules ever clash."""
    return tell_answer(clash(desk.book))


def say_restless(desk, parts):
    """Tell whether a moment is ever restless."""
    return tell_answer(restless(desk.book))


def say_silent(desk, parts):
    """Tell the rules that never do a thing."""
    return tell_names(silent(desk.book))


def say_doing(desk, parts):
    """Tell whether a rule ever does a thing."""
    return tell_answer(doing(desk.book, parts[0]))


def say_always(desk, parts):
    """Tell whether a saying is so always."""
    return tell_answer(always(desk.book, Saying(" ".join(parts))))


def say_fewest(desk, parts):
    """Tell the fewest rules that do as all."""
    return tell_names(fewest(desk.book)[0])


def say_paper(desk, parts):
    """Tell whether the checker takes the house's paper of clashes."""
    claim, paper = paper_clash(desk.book)
    return "holds" if holds(claim, paper) else "no"


ACTIONS = {"rule": say_rule, "drop": say_drop, "next": say_next, "hand": say_hand, "free": say_free, "fail": say_fail,
           "what": say_what, "hour": say_hour, "book": say_book, "clash": say_clash, "restless": say_restless,
           "silent": say_silent, "doing": say_doing, "always": say_always, "fewest": say_fewest, "paper": say_paper}
# How many words stand behind the first one, where this hangs neither on the house nor on a text.
PARTS = {"drop": 1, "hand": 2, "free": 1, "fail": 1, "what": 1, "hour": 0, "book": 0, "clash": 0, "restless": 0,
         "silent": 0, "doing": 1, "fewest": 0, "paper": 0}


def is_desk_row(house, word, parts):
    """Tell whether a first word, and how many words are behind it, make a row that a desk can be told."""
    if word == "next":
        return len(parts) == len(house.outer)
    if word in ("rule", "always"):
        return len(parts) > 0
    return word in PARTS and len(parts) == PARTS[word]


class Desk:
    """A house's desk: its book, its standing, what is held, and what the next moment is to bring."""

    def __init__(self, house):
        self.book = Book(house)
        self.standing = first_standing(self.book)
        self.held = ()
        self.hands = ()
        self.freed = ()
        self.failing = ()

    def say(self, row):
        """Do what a row, of any kind, asks for; tell the answer."""
        words = row.split(" ") if isinstance(row, str) else [""]
        if not is_desk_row(self.book.house, words[0], words[1:]):
            raise NoRow("this is no row that a desk can be told")
        action = ACTIONS[words[0]]
        return action(self, words[1:])
