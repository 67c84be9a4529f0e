"""The fewest rules of a book that do as all of them."""

from hearthrules.books import book_of, sets_of
from hearthrules.errors import TooMany
from hearthrules.machines import made
from hearthrules.pairs import compared

MOST_RULES_TRIED = 5


def fewest(book):
    """Tell the first of the smallest sets of rules that do alike with the book, and what parts each smaller one."""
    if len(book) > MOST_RULES_TRIED:
        raise TooMany(len(book), MOST_RULES_TRIED)
    machine = made(book)
    every = [rule.name for rule in book.rules]
    fewer = []
    for many in range(len(every)):
        rows = []
        for names in sets_of(every, many):
            word, paper = compared(machine, made(book_of(book, names)))
            if word == "alike":
                return names, tuple(fewer)
            rows.append((names, paper))
        fewer += rows
    # All of its rules do as all of them, whatever they are.
    return tuple(every), tuple(fewer)
