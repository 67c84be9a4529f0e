"""Sayings: what is so or not, of things and hours, put in words."""

from hearthrules.errors import NoSaying, NoThing
from hearthrules.houses import has_value
from hearthrules.names import is_name, read_number

MOST_WORDS = 40
MOST_BRACKETS = 6


def word_at(words, at):
    """Tell the word of this number, an empty one where none can stand."""
    # An empty word can stand nowhere, so the end and the forty-first word are refused as one.
    return words[at] if at < min(len(words), MOST_WORDS) else ""


def joined(word, parts):
    """Tell the tree of parts with a word between, the part itself where it is alone."""
    return parts[0] if len(parts) == 1 else (word, tuple(parts))


def read_some(words, at, opened):
    """Read parts with `or` between; tell their tree and the number of the word behind them."""
    tree, at = read_all(words, at, opened)
    parts = [tree]
    while word_at(words, at) == "or":
        tree, at = read_all(words, at + 1, opened)
        parts.append(tree)
    return joined("or", parts), at


def read_all(words, at, opened):
    """Read parts with `and` between; tell their tree and the number of the word behind them."""
    tree, at = read_one(words, at, opened)
    parts = [tree]
    while word_at(words, at) == "and":
        tree, at = read_one(words, at + 1, opened)
        parts.append(tree)
    return joined("and", parts), at


def read_one(words, at, opened):
    """Read one part, OPENED brackets being open; tell its tree and the number of the word behind it."""
    word = word_at(words, at)
    if word == "not":
        tree, at = read_one(words, at + 1, opened)
        return ("not", tree), at
    if word == "(" and opened < MOST_BRACKETS:
        tree, at = read_some(words, at + 1, opened + 1)
        if word_at(words, at) != ")":
            raise NoSaying(at)
        return tree, at + 1
    if word == "hour":
        return read_hours(words, at + 1)
    return read_thing(words, at)


def read_hours(words, at):
    """Read the hours behind the word `hour`; tell their tree and the number of the word behind them."""
    first = read_number(word_at(words, at))
    if first is None:
        raise NoSaying(at)
    if word_at(words, at + 1) != "to":
        return ("hour", first, first), at + 1
    last = read_number(word_at(words, at + 2))
    if last is None:
        raise NoSaying(at + 2)
    return ("hour", first, last), at + 3


def read_thing(words, at):
    """Read a thing and its value; tell their tree and the number of the word behind them."""
    if not is_name(word_at(words, at)):
        raise NoSaying(at)
    if word_at(words, at + 1) != "is":
        raise NoSaying(at + 1)
    if not is_name(word_at(words, at + 2)):
        raise NoSaying(at + 2)
    return ("is", words[at], words[at + 2]), at + 3


def read_words(words):
    """Tell the tree of all the words of a saying."""
    tree, at = read_some(words, 0, 0)
    if at < len(words):
        raise NoSaying(at)
    return tree


def is_within(hour, first, last):
    """Tell whether an hour is one from the first on to the last, past midnight where the last is less."""
    if first <= last:
        return first <= hour <= last
    return hour >= first or hour <= last


def is_so(tree, hour, things):
    """Tell whether what a tree says is so at an hour, by the things' values."""
    word = tree[0]
    if word == "is":
        return things[tree[1]] == tree[2]
    if word == "hour":
        return is_within(hour, tree[1], tree[2])
    if word == "not":
        return not is_so(tree[1], hour, things)
    if word == "and":
        return all([is_so(part, hour, things) for part in tree[1]])
    return any([is_so(part, hour, things) for part in tree[1]])


class Saying:
    """Something that is so or not at an hour, by the values of things."""

    def __init__(self, text):
        if not isinstance(text, str):
            raise NoSaying(0)
        words = text.split(" ")
        self.tree = read_words(words)
        self.text = text
        self.words = tuple(words)
        # `is` is no name and numbers stand behind `hour` and `to` alone, so the words tell both without the tree.
        self.pairs = tuple([(words[at - 1], words[at + 1]) for at in range(len(words)) if words[at] == "is"])
        self.numbers = tuple([read_number(word) for word in words if read_number(word) is not None])

    def __eq__(self, other):
        return isinstance(other, Saying) and self.text == other.text

    def __len__(self):
        return len(self.words)

    def __repr__(self):
        return f"Saying({self.text})"

    def __str__(self):
        return str(self.text)

    def so(self, hour, things):
        """Tell whether it is so at an hour, THINGS being a dict from names to values."""
        for name, value in self.pairs:
            if name not in things:
                raise NoThing(name)
        return is_so(self.tree, hour, things)

    def things(self):
        """Tell the names of the things that it speaks of, rising."""
        return tuple(sorted(set([name for name, value in self.pairs])))


def speaks_of(saying, house):
    """Tell whether a saying speaks of this house alone: its things, their values, its hours."""
    both = house.outer + house.inner
    return (all([has_value(both, name, value) for name, value in saying.pairs])
            and all([hour < house.hours for hour in saying.numbers]))
