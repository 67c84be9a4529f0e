"""The checker: whether a paper shows that a claim is so. It rests on houses, sayings, books, moments and courses."""

from hearthrules.books import Book, book_of, sets_of
from hearthrules.courses import Course
from hearthrules.houses import all_outer
from hearthrules.moments import first_standing, is_standing, moment, values_by_name
from hearthrules.names import is_name, is_rising, is_row
from hearthrules.sayings import Saying, speaks_of


def rules_clash(book, about, told):
    """Tell whether rules clash in a moment."""
    return len(told.clashes) > 0


def is_restless(book, about, told):
    """Tell whether a moment is restless."""
    return told.restless


def rule_does(book, name, told):
    """Tell whether the rule of this name is among those of a doing."""
    return any([name in doing[3] for doing in told.doings])


def saying_fails(book, saying, told):
    """Tell whether a saying isn't so at a moment's end."""
    return not saying.so(told.hour, values_by_name(book.house, told.outer, told.ends))


def is_rule_name(book, thing):
    """Tell whether a thing, of any kind, is the name of a rule of the book."""
    return is_name(thing) and thing in [rule.name for rule in book.rules]


def are_rule_names(book, thing):
    """Tell whether a thing, of any kind, is a rising tuple of names of rules of the book."""
    return isinstance(thing, tuple) and all([is_rule_name(book, name) for name in thing]) and is_rising(thing)


def is_saying_of(book, thing):
    """Tell whether a thing, of any kind, is a saying that speaks of the book's house alone."""
    return isinstance(thing, Saying) and speaks_of(thing, book.house)


def is_book_beside(book, thing):
    """Tell whether a thing, of any kind, is a book whose house is alike."""
    return isinstance(thing, Book) and thing.house == book.house


# What a course shows to come, and what a table shows never to come, by the word of the claim.
SHOWN = {"clash": rules_clash, "restless": is_restless, "doing": rule_does, "broken": saying_fails}
BARRED = {"no clash": rules_clash, "rests": is_restless, "no doing": rule_does, "always": saying_fails}
ALONE = ("clash", "no clash", "restless", "rests")
ABOUT = {"doing": is_rule_name, "no doing": is_rule_name, "broken": is_saying_of, "always": is_saying_of,
         "alike": is_book_beside, "parted": is_book_beside, "fewest": are_rule_names}


def is_claim(claim):
    """Tell whether a thing, of any kind, is a claim, be it true or not."""
    if not is_row(claim, 2, 3) or not isinstance(claim[0], str) or not isinstance(claim[1], Book):
        return False
    if len(claim) == 2:
        return claim[0] in ALONE
    if claim[0] not in ABOUT:
        return False
    fits = ABOUT[claim[0]]
    return fits(claim[1], claim[2])


def is_plain_course(house, thing):
    """Tell whether a thing, of any kind, is a course of this house with a row, and without hands or failing things."""
    return (isinstance(thing, Course) and thing.house == house and len(thing) > 0
            and all([row[1:] == ((), (), ()) for row in thing.rows]))


def last_moment(book, course):
    """Tell the last moment of a course without hands and failing things."""
    standing = first_standing(book)
    told = None
    for row in course.rows:
        told = moment(book, standing, row[0])
        standing = told.standing
    return told


def moments_of(book, standings):
    """Tell a dict from each of these standings to its moments, one for each way of the outer values."""
    outers = all_outer(book.house)
    told = {}
    for standing in standings:
        if standing not in told:
            told[standing] = [moment(book, standing, outer) for outer in outers]
    return told


def shows(book, about, event, paper):
    """Tell whether PAPER, of any kind, is a course in whose last moment the event comes."""
    return is_plain_course(book.house, paper) and event(book, about, last_moment(book, paper))


def is_table(book, paper):
    """Tell whether PAPER, of any kind, is a rising tuple of standings of the book."""
    return isinstance(paper, tuple) and all([is_standing(book, row) for row in paper]) and is_rising(paper)


def bars(book, about, event, paper):
    """Tell whether PAPER, of any kind, is a table that no course leaves, without the event on its moments."""
    if not is_table(book, paper):
        return False
    moments = moments_of(book, paper)
    if first_standing(book) not in moments:
        return False
    return all([told.standing in moments and not event(book, about, told)
                for standing in paper for told in moments[standing]])


def are_standings(book, other, thing):
    """Tell whether a thing, of any kind, is a pair of standings of both books."""
    return is_row(thing, 2, 2) and is_standing(book, thing[0]) and is_standing(other, thing[1])


def is_pair_table(book, other, paper):
    """Tell whether PAPER, of any kind, is a rising tuple of pairs of standings of both books."""
    if not isinstance(paper, tuple) or not all([are_standings(book, other, row) for row in paper]):
        return False
    return is_rising(paper)


def shows_alike(book, other, paper):
    """Tell whether PAPER, of any kind, is a table of pairs that no course leaves, the ends alike."""
    if not is_pair_table(book, other, paper):
        return False
    known = {pair: True for pair in paper}
    if (first_standing(book), first_standing(other)) not in known:
        return False
    ones = moments_of(book, [pair[0] for pair in paper])
    twos = moments_of(other, [pair[1] for pair in paper])
    return all([one.ends == two.ends and (one.standing, two.standing) in known
                for first, second in paper for one, two in zip(ones[first], twos[second])])


def shows_parted(book, other, paper):
    """Tell whether PAPER, of any kind, is a course whose last moments' ends aren't alike."""
    return is_plain_course(book.house, paper) and last_moment(book, paper).ends != last_moment(other, paper).ends


def is_set_parted(book, names, row):
    """Tell whether ROW, of any kind, is the set of these names with a course that parts its book."""
    if not is_row(row, 2, 2) or not are_rule_names(book, row[0]) or row[0] != names:
        return False
    return shows_parted(book, book_of(book, names), row[1])


def shows_fewest(book, names, paper):
    """Tell whether PAPER, of any kind, shows that these rules do as all, and that no fewer do."""
    if not is_row(paper, 2, 2):
        return False
    pairs, rows = paper
    every = [rule.name for rule in book.rules]
    fewer = [row for many in range(len(names)) for row in sets_of(every, many)]
    if not is_row(rows, len(fewer), len(fewer)) or not shows_alike(book, book_of(book, names), pairs):
        return False
    return all([is_set_parted(book, some, row) for some, row in zip(fewer, rows)])


def holds(claim, paper):
    """Tell whether the paper shows that the claim is so; both may be of any kind."""
    if not is_claim(claim):
        return False
    word = claim[0]
    book = claim[1]
    about = claim[2] if len(claim) == 3 else None
    if word in SHOWN:
        event = SHOWN[word]
        return shows(book, about, event, paper)
    if word in BARRED:
        event = BARRED[word]
        return bars(book, about, event, paper)
    if word == "alike":
        return shows_alike(book, about, paper)
    if word == "parted":
        return shows_parted(book, about, paper)
    return shows_fewest(book, about, paper)
