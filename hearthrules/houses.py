"""Houses: outer and inner things with their values, and the hours."""

from hearthrules.errors import NoHouse, NoThing
from hearthrules.names import is_name, is_rising, is_row, is_whole

MOST_OUTER = 3
MOST_INNER = 4
LEAST_VALUES = 2
MOST_VALUES = 4
MOST_WAYS = 12
MOST_HOURS = 6


def are_values(values):
    """Tell whether VALUES, of any kind, are those of a thing."""
    if not is_row(values, LEAST_VALUES, MOST_VALUES) or not all([is_name(value) for value in values]):
        return False
    return len(set(values)) == len(values)


def is_thing(thing):
    """Tell whether THING, of any kind, is a name with values."""
    return is_row(thing, 2, 2) and is_name(thing[0]) and are_values(thing[1])


def are_things(things, least, most):
    """Tell whether THINGS, of any kind, are LEAST to MOST things, rising by names."""
    if not is_row(things, least, most) or not all([is_thing(thing) for thing in things]):
        return False
    return is_rising(names_of(things))


def names_of(things):
    """Tell the names of things, in their order."""
    return [thing[0] for thing in things]


def count_ways(things):
    """Tell how many ways there are to give all these things values."""
    ways = 1
    for thing in things:
        ways *= len(thing[1])
    return ways


def share_a_name(some, others):
    """Tell whether a name of one row of things is one of the other row, too."""
    taken = names_of(some)
    return any([name in taken for name in names_of(others)])


def can_be_outer(things):
    """Tell whether THINGS, of any kind, can be the outer things of a house."""
    return are_things(things, 0, MOST_OUTER) and count_ways(things) <= MOST_WAYS


def can_be_inner(outer, things):
    """Tell whether THINGS, of any kind, can be the inner things of a house with these outer ones."""
    return are_things(things, 1, MOST_INNER) and not share_a_name(outer, things)


def can_be_hours(hours):
    """Tell whether HOURS, of any kind, can be the hours of a house."""
    return is_whole(hours, 1, MOST_HOURS)


def thing_rows(word, things):
    """Tell the rows of a house's text for some of its things."""
    return [" ".join([word, name, *values]) for name, values in things]


class House:
    """A house: its outer things, its inner ones, and how many hours it has."""

    def __init__(self, outer, inner, hours=4):
        if not can_be_outer(outer):
            raise NoHouse("outer")
        if not can_be_inner(outer, inner):
            raise NoHouse("inner")
        if not can_be_hours(hours):
            raise NoHouse("hours")
        self.outer = outer
        self.inner = inner
        self.hours = hours

    def __eq__(self, other):
        return (isinstance(other, House) and self.outer == other.outer
                and self.inner == other.inner and self.hours == other.hours)

    def __len__(self):
        return len(self.outer + self.inner)

    def __repr__(self):
        return f"House({len(self.outer)} outer, {len(self.inner)} inner, {self.hours} hours)"

    def __str__(self):
        rows = [f"hours {self.hours}"]
        rows += thing_rows("outer", self.outer)
        rows += thing_rows("inner", self.inner)
        return "\n".join(rows)

    def values_of(self, name):
        """Tell the values of the thing of this name; NAME may be of any kind."""
        # Only a text is compared: what other kinds take for alike is theirs to say.
        if is_name(name):
            for thing, values in self.outer + self.inner:
                if thing == name:
                    return values
        raise NoThing(name)


def all_outer(house):
    """Tell all ways to give the outer things values, the first thing's changing slowest."""
    ways = [()]
    for thing in house.outer:
        ways = [(*way, value) for way in ways for value in thing[1]]
    return ways


def first_values(house):
    """Tell the inner things' values at the beginning."""
    return tuple([thing[1][0] for thing in house.inner])


def has_value(things, name, value):
    """Tell whether one of these things has this name, and this value among its own; both of any kind."""
    if not is_name(name) or not is_name(value):
        return False
    return any([name == thing and value in values for thing, values in things])


def gives_each(things, row):
    """Tell whether ROW, of any kind, is a tuple of one value for each of these things, in their order."""
    if not is_row(row, len(things), len(things)):
        return False
    return all([is_name(value) and value in thing[1] for thing, value in zip(things, row)])


def are_inner_names(house, names):
    """Tell whether NAMES, of any kind, are a rising tuple of names of inner things."""
    inner = names_of(house.inner)
    if not isinstance(names, tuple) or not all([is_name(name) and name in inner for name in names]):
        return False
    return is_rising(names)
