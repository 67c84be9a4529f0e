"""Books: some rules of a house."""

from hearthrules.errors import NoBook, NoName, NoText
from hearthrules.houses import House, can_be_hours, can_be_inner, can_be_outer, count_ways, has_value
from hearthrules.names import is_name, is_row, read_number
from hearthrules.rules import Rule, read_rule
from hearthrules.sayings import speaks_of

MOST_RULES = 6
RULE_WORD = "rule "


def is_rule_of(rule, house):
    """Tell whether a rule speaks of this house alone, and does inner things."""
    return (speaks_of(rule.when, house) and (rule.unless is None or speaks_of(rule.unless, house))
            and all([has_value(house.inner, thing, value) for thing, value in rule.do]))


def are_rules(rules):
    """Tell whether RULES, of any kind, are a tuple of not too many rules."""
    return is_row(rules, 0, MOST_RULES) and all([isinstance(rule, Rule) for rule in rules])


class Book:
    """A house's rules, in whatever order they came."""

    def __init__(self, house, rules=None):
        told = () if rules is None else rules
        if not isinstance(house, House) or not are_rules(told):
            raise NoBook(None)
        ahead = []
        for rule in told:
            if rule.name in ahead or not is_rule_of(rule, house):
                raise NoBook(rule.name)
            ahead.append(rule.name)
        self.house = house
        self.rules = tuple(sorted(told, key=lambda rule: rule.name))

    def __eq__(self, other):
        return isinstance(other, Book) and self.house == other.house and self.rules == other.rules

    def __len__(self):
        return len(self.rules)

    def __repr__(self):
        names = [rule.name for rule in self.rules]
        return f"Book({', '.join(names)})"

    def __str__(self):
        rows = [str(self.house)]
        rows += [RULE_WORD + str(rule) for rule in self.rules]
        return "\n".join(rows)

    def named(self, name):
        """Tell the rule of this name; NAME may be of any kind."""
        # Only a text is compared: what other kinds take for alike is theirs to say.
        if is_name(name):
            for rule in self.rules:
                if rule.name == name:
                    return rule
        raise NoName(name)

    def with_rule(self, rule):
        """Tell the book with this rule, in the place of one of its name; RULE may be of any kind."""
        if not isinstance(rule, Rule):
            raise NoBook(None)
        others = [mine for mine in self.rules if mine.name != rule.name]
        return Book(self.house, (*others, rule))

    def without(self, name):
        """Tell the book without the rule of this name; NAME may be of any kind."""
        lost = self.named(name)
        return Book(self.house, tuple([rule for rule in self.rules if rule.name != lost.name]))

    def size(self):
        """Tell how many standings the book has."""
        many = self.house.hours * count_ways(self.house.inner)
        for rule in self.rules:
            many *= rule.behind + 1
        return many


def book_of(book, names):
    """Tell the book of those rules alone that have these names."""
    return Book(book.house, tuple([book.named(name) for name in names]))


def sets_of(names, many):
    """Tell all the rising tuples of so many of these rising names, rising."""
    if many == 0:
        return [()]
    return [(names[at], *rest) for at in range(len(names)) for rest in sets_of(names[at + 1:], many - 1)]


def read_thing_row(row):
    """Tell the thing that a row with a blank behind its first word writes, or what no house has."""
    words = row.split(" ")
    return words[1], tuple(words[2:])


def read_outer_rows(rows):
    """Read the rows of outer things behind the first row; tell the things."""
    outer = ()
    for at in range(1, len(rows)):
        if not rows[at].startswith("outer "):
            break
        outer = (*outer, read_thing_row(rows[at]))
        if not can_be_outer(outer):
            raise NoText(at)
    return outer


def read_inner_rows(rows, first, outer):
    """Read the rows of inner things from a number on, at least one; tell the things."""
    inner = ()
    for at in range(first, len(rows)):
        if not rows[at].startswith("inner "):
            break
        inner = (*inner, read_thing_row(rows[at]))
        if not can_be_inner(outer, inner):
            raise NoText(at)
    if inner == ():
        raise NoText(first)
    return inner


def read_rule_row(book, row, at):
    """Tell the book with the rule that the row of this number writes."""
    if not row.startswith(RULE_WORD):
        raise NoText(at)
    try:
        return Book(book.house, (*book.rules, read_rule(row[len(RULE_WORD):])))
    except (NoText, NoBook):
        raise NoText(at) from None


def read_book(text):
    """Read a book's text, its rules in any order; TEXT may be of any kind."""
    rows = text.split("\n") if isinstance(text, str) else [""]
    head = rows[0].split(" ")
    hours = read_number(head[1]) if len(head) == 2 and head[0] == "hours" else None
    if not can_be_hours(hours):
        raise NoText(0)
    outer = read_outer_rows(rows)
    inner = read_inner_rows(rows, 1 + len(outer), outer)
    book = Book(House(outer, inner, hours))
    first = 1 + len(outer) + len(inner)
    for at in range(first, len(rows)):
        book = read_rule_row(book, rows[at], at)
    return book
