"""The house's papers: the claim that is true, with what shows the checker that it is."""

from hearthrules.books import book_of
from hearthrules.comes import clash, doing, restless
from hearthrules.few import fewest
from hearthrules.machines import made
from hearthrules.pairs import both_made, compared
from hearthrules.wishes import always


def paper_clash(book):
    """Tell whether rules ever clash, with the paper."""
    word, paper = clash(book)
    return ("clash" if word == "comes" else "no clash", book), paper


def paper_rests(book):
    """Tell whether moments always rest, with the paper."""
    word, paper = restless(book)
    return ("restless" if word == "comes" else "rests", book), paper


def paper_doing(book, name):
    """Tell whether the rule of this name ever does something, with the paper."""
    word, paper = doing(book, name)
    return ("doing" if word == "comes" else "no doing", book, name), paper


def paper_always(book, saying):
    """Tell whether a saying is so from the first moment on, with the paper."""
    word, paper = always(book, saying)
    return (word, book, saying), paper


def paper_alike(book, other):
    """Tell whether two books do alike, with the paper."""
    one, two = both_made(book, other)
    word, paper = compared(one, two)
    return (word, book, other), paper


def paper_fewest(book):
    """Tell the fewest rules that do as all, with the paper."""
    names, fewer = fewest(book)
    word, pairs = compared(made(book), made(book_of(book, names)))
    return ("fewest", book, names), (pairs, fewer)
