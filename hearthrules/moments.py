"""Moments: what the rules of a book do at one time, round by round."""

from hearthrules.errors import NoOuter, NoStanding, NoThing
from hearthrules.houses import are_inner_names, first_values, gives_each
from hearthrules.names import is_row, is_whole


class Moment:
    """What came at one moment: doings, clashes, values at the end and the standing behind."""

    def __init__(self, hour, outer, doings, clashes, restless, ends, standing):
        self.hour = hour
        self.outer = outer
        self.doings = doings
        self.clashes = clashes
        self.restless = restless
        self.ends = ends
        self.standing = standing

    def __eq__(self, other):
        return (isinstance(other, Moment) and self.hour == other.hour and self.outer == other.outer
                and self.doings == other.doings and self.clashes == other.clashes
                and self.restless == other.restless and self.ends == other.ends
                and self.standing == other.standing)

    def __len__(self):
        return len(self.doings)

    def __repr__(self):
        return f"Moment({self.hour})"


def first_standing(book):
    """Tell the standing of a book at the beginning."""
    return 0, first_values(book.house), tuple([0 for rule in book.rules])


def are_counts(rules, counts):
    """Tell whether COUNTS, of any kind, are counts of these rules, in their order."""
    if not is_row(counts, len(rules), len(rules)):
        return False
    return all([is_whole(count, 0, rule.behind) for rule, count in zip(rules, counts)])


def is_standing(book, thing):
    """Tell whether a thing, of any kind, is a standing of the book."""
    return (is_row(thing, 3, 3) and is_whole(thing[0], 0, book.house.hours - 1)
            and gives_each(book.house.inner, thing[1]) and are_counts(book.rules, thing[2]))


def values_by_name(house, outer, ends):
    """Tell a dict from the names of all things to these values of theirs."""
    told = {}
    for thing, value in zip(house.outer + house.inner, outer + ends):
        told[thing[0]] = value
    return told


def is_awake(rule, hour, told):
    """Tell whether WHEN is so and UNLESS isn't."""
    return rule.when.so(hour, told) and (rule.unless is None or not rule.unless.so(hour, told))


def due_rules(book, counts, hour, told):
    """Tell the rules that are due, rising by names."""
    return [rule for rule, count in zip(book.rules, counts)
            if count == rule.behind and is_awake(rule, hour, told)]


def pulls_that_count(thing, due):
    """Tell (NAME, VALUE) of the due rules of the greatest rank among those that pull a thing."""
    pulls = [(rule, value) for rule in due for name, value in rule.do if name == thing]
    greatest = max([rule.rank for rule, value in pulls], default=0)
    return [(rule.name, value) for rule, value in pulls if rule.rank == greatest]


def go_round(house, ends, due, stuck):
    """Tell what a round sets, as (THING, VALUE, RULES), and its clashes, as (THING, RULES)."""
    sets = []
    clashes = []
    for thing, now in zip(house.inner, ends):
        pulls = pulls_that_count(thing[0], due)
        names = tuple([name for name, value in pulls])
        aims = [value for name, value in pulls]
        if len(set(aims)) > 1:
            clashes.append((thing[0], names))
        elif aims != [] and aims[0] != now and thing[0] not in stuck:
            sets.append((thing[0], aims[0], names))
    return sets, clashes


def values_set(house, ends, aims):
    """Tell the inner values when things are set, AIMS being a dict from their names to values."""
    return tuple([aims.get(thing[0], now) for thing, now in zip(house.inner, ends)])


def standing_behind(book, standing, outer, ends):
    """Tell the standing behind a moment with these values at its end."""
    hour = standing[0]
    told = values_by_name(book.house, outer, ends)
    counts = [min(count + 1, rule.behind) if is_awake(rule, hour, told) else 0
              for rule, count in zip(book.rules, standing[2])]
    return (hour + 1) % book.house.hours, ends, tuple(counts)


def go_through(book, standing, outer, stuck):
    """Tell the Moment of a standing and outer values, with things that can't be set."""
    hour, ends, counts = standing
    doings = []
    clashes = []
    seen = []
    sets = []
    # A round that sets nothing leaves values that were there ahead of it, so one test ends both kinds of moments.
    while ends not in seen:
        seen.append(ends)
        due = due_rules(book, counts, hour, values_by_name(book.house, outer, ends))
        sets, fresh = go_round(book.house, ends, due, stuck)
        doings += [(len(seen) - 1, *row) for row in sets]
        clashes += fresh
        ends = values_set(book.house, ends, {thing: value for thing, value, names in sets})
    return Moment(hour, outer, tuple(doings), tuple(sorted(set(clashes))), sets != [], ends,
                  standing_behind(book, standing, outer, ends))


def moment(book, standing, outer, held=None, failing=None):
    """Tell the Moment of a book; all but BOOK may be of any kind."""
    if not is_standing(book, standing):
        raise NoStanding("this is no standing of the book")
    if not gives_each(book.house.outer, outer):
        raise NoOuter("these are no values for the outer things")
    for names in (held, failing):
        if names is not None and not are_inner_names(book.house, names):
            raise NoThing(names)
    return go_through(book, standing, outer, (held or ()) + (failing or ()))
