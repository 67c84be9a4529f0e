"""Machines: all the standings that a book comes to, and what comes of each."""

from hearthrules.errors import NoOuter, TooMany
from hearthrules.houses import all_outer, gives_each
from hearthrules.moments import first_standing, moment

MOST_STANDINGS = 400


def number_alike(keys):
    """Tell a number for each key, the same for the same, by the order in which they first stand."""
    numbers = {}
    for key in keys:
        if key not in numbers:
            numbers[key] = len(numbers)
    return [numbers[key] for key in keys]


def groups_of(table):
    """Tell the number of each standing's group: those that tell the same ends on all courses."""
    groups = number_alike([tuple([ends for behind, ends in row]) for row in table])
    many = 0
    # Each turn parts what one more moment tells apart; where it parts nothing more, no course does.
    while max(groups) >= many:
        many = max(groups) + 1
        keys = [tuple([groups[behind] for behind, ends in row]) for row in table]
        groups = number_alike([(group, key) for group, key in zip(groups, keys)])
    return groups


class Machine:
    """For each standing and each way of the outer values: the number of the one behind, and the ends."""

    def __init__(self, house, table, standings):
        self.house = house
        self.table = table
        self.standings = standings

    def __eq__(self, other):
        return isinstance(other, Machine) and self.house == other.house and self.table == other.table

    def __len__(self):
        return len(self.table)

    def __repr__(self):
        return f"Machine({len(self.table)})"

    def walk(self, outers):
        """Tell the list of the values at the ends of these moments; OUTERS may be of any kind."""
        if not isinstance(outers, tuple) or not all([gives_each(self.house.outer, outer) for outer in outers]):
            raise NoOuter("these are no values for the outer things")
        ways = all_outer(self.house)
        told = []
        at = 0
        for outer in outers:
            at, ends = self.table[at][ways.index(outer)]
            told.append(ends)
        return told

    def least(self):
        """Tell the machine in which standings that tell the same ends on all courses are one."""
        groups = groups_of(self.table)
        # Standings are numbered by the least courses to them, so groups numbered by their least standings are, too.
        leaders = [groups.index(group) for group in range(max(groups) + 1)]
        table = [tuple([(groups[behind], ends) for behind, ends in self.table[at]]) for at in leaders]
        return Machine(self.house, tuple(table), tuple([self.standings[at] for at in leaders]))


def refuse_many(book):
    """Refuse a book of too many standings."""
    if book.size() > MOST_STANDINGS:
        raise TooMany(book.size(), MOST_STANDINGS)


def made(book):
    """Tell the machine of a book."""
    refuse_many(book)
    standings = [first_standing(book)]
    numbers = {standings[0]: 0}
    table = []
    while len(table) < len(standings):
        row = []
        for outer in all_outer(book.house):
            told = moment(book, standings[len(table)], outer)
            if told.standing not in numbers:
                numbers[told.standing] = len(standings)
                standings.append(told.standing)
            row.append((numbers[told.standing], told.ends))
        table.append(tuple(row))
    return Machine(book.house, tuple(table), tuple(standings))
