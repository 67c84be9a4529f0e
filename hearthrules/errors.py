"""The refusals: each has a class of its own, straight under one of two bases."""

# No text here shows what was handed in: a thing of any kind may have no text that can be shown.


class HearthError(ValueError):
    """The base of the refusals of what isn't so formed."""


class NoHouse(HearthError):
    """No house; `part` is `outer`, `inner` or `hours`."""

    def __init__(self, part):
        super().__init__("this makes no house")
        self.part = part


class NoSaying(HearthError):
    """No saying; `at` is the number of the first word that can't stand where it does."""

    def __init__(self, at):
        super().__init__("this makes no saying")
        self.at = at


class NoRule(HearthError):
    """No rule; `part` is the word for the first part that isn't so."""

    def __init__(self, part):
        super().__init__("this makes no rule")
        self.part = part


class NoBook(HearthError):
    """No book; `rule` is the name of the first rule that isn't so, or None."""

    def __init__(self, rule):
        super().__init__("this makes no book")
        self.rule = rule


class NoText(HearthError):
    """No text of this form; `row` is the number of the first row that isn't so."""

    def __init__(self, row):
        super().__init__("this text isn't so written")
        self.row = row


class NoStanding(HearthError):
    """No standing of the book."""


class NoOuter(HearthError):
    """No values for the house's outer things."""


class NoCourse(HearthError):
    """No course; `number` is that of the first row that isn't so, or None."""

    def __init__(self, number):
        super().__init__("this makes no course")
        self.number = number


class NoChange(HearthError):
    """No change of books; `number` is the place of the first that isn't so, or None."""

    def __init__(self, number):
        super().__init__("this is no change of books")
        self.number = number


class NoPair(HearthError):
    """Two things whose houses aren't alike."""


class TooMany(HearthError):
    """More than can be looked through; `many` there are, `most` there may be."""

    def __init__(self, many, most):
        super().__init__("there are too many to look through")
        self.many = many
        self.most = most


class NoNumber(HearthError):
    """No whole number within its bounds."""


class NoRow(HearthError):
    """No row that a desk can be told."""


class LostError(LookupError):
    """The base of the refusals of what isn't there."""


class NoThing(LostError):
    """No thing of the house; `name` is what was handed in."""

    def __init__(self, name):
        super().__init__("there is no such thing")
        self.name = name


class NoName(LostError):
    """No rule of this name; `name` is what was handed in."""

    def __init__(self, name):
        super().__init__("there is no rule of this name")
        self.name = name
