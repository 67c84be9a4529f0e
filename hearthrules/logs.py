"""Logs: a course and what comes on it, in rows of text."""

from hearthrules.courses import Course, is_course_row
from hearthrules.errors import NoCourse, NoText
from hearthrules.houses import names_of
from hearthrules.names import is_name, read_number
from hearthrules.runs import run

MOST_LOGGED = 60
BAR = " | "


def tell_head(told, row):
    """Tell a log row's part ahead of the first bar."""
    outer, hands, freed, failing = row
    words = [str(told.hour), *outer]
    for thing, value in hands:
        words += ["hand", thing, value]
    for thing in freed:
        words += ["free", thing]
    for thing in failing:
        words += ["fail", thing]
    return " ".join(words)


def tell_doing(thing, value, names):
    """Tell the text of a doing."""
    return " ".join([thing, value, "by", ",".join(names)])


def tell_moment(told):
    """Tell a log row's part behind the first bar."""
    doings = "; ".join([tell_doing(thing, value, names) for turn, thing, value, names in told.doings])
    parts = ["none" if doings == "" else doings]
    if told.clashes != ():
        things = sorted(set([thing for thing, names in told.clashes]))
        parts.append(" ".join(["clash", *things]))
    if told.restless:
        parts.append("restless")
    return BAR.join(parts)


def log_of(book, course):
    """Tell the log of a course."""
    if len(course) > MOST_LOGGED:
        raise NoCourse(None)
    moments = run(book, course)
    return "\n".join([tell_head(told, row) + BAR + tell_moment(told) for told, row in zip(moments, course.rows)])


def take_from(words, word, many):
    """Take each WORD with MANY words behind it from the front of words; tell the latter as tuples, and the rest."""
    taken = []
    while len(words) > many and words[0] == word:
        taken.append(tuple(words[1:many + 1]))
        words = words[many + 1:]
    return taken, words


def read_head(house, text):
    """Tell the row of a course that the part ahead of the first bar writes, None where it writes none."""
    words = text.split(" ")
    if read_number(words[0]) is None:
        return None
    first = 1 + len(house.outer)
    hands, rest = take_from(words[first:], "hand", 2)
    freed, rest = take_from(rest, "free", 1)
    failing, rest = take_from(rest, "fail", 1)
    row = (tuple(words[1:first]), tuple(hands), tuple(names_of(freed)), tuple(names_of(failing)))
    return row if rest == [] and is_course_row(house, row) else None


def is_doing(text):
    """Tell whether a text has the form of a doing."""
    words = text.split(" ")
    if len(words) != 4 or words[2] != "by":
        return False
    return all([is_name(word) for word in [words[0], words[1], *words[3].split(",")]])


def are_doings(text):
    """Tell whether a text has the form of doings, be there none."""
    return text == "none" or all([is_doing(part) for part in text.split("; ")])


def are_clashes(text):
    """Tell whether a text has the form of clashes."""
    words = text.split(" ")
    return len(words) > 1 and words[0] == "clash" and all([is_name(word) for word in words[1:]])


def is_told(parts):
    """Tell whether parts have the form of those behind the first bar."""
    if parts == [] or not are_doings(parts[0]):
        return False
    rest = parts[1:]
    if rest != [] and are_clashes(rest[0]):
        rest = rest[1:]
    return rest == [] or rest == ["restless"]


def read_row(house, text):
    """Tell the row of a course that a row of a log writes, None where it isn't so written."""
    parts = text.split(BAR)
    return read_head(house, parts[0]) if is_told(parts[1:]) else None


def read_log(house, text):
    """Read a log; tell its course. TEXT may be of any kind."""
    if not isinstance(text, str):
        raise NoText(0)
    texts = [] if text == "" else text.split("\n")
    rows = []
    for number, one in enumerate(texts):
        row = read_row(house, one)
        if row is None or number >= MOST_LOGGED:
            raise NoText(number)
        rows.append(row)
    return Course(house, tuple(rows))


def is_log(book, text):
    """Tell whether a text, of any kind, is the log that the book tells of its course."""
    return log_of(book, read_log(book.house, text)) == text
