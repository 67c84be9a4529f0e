"""Rules: what pulls things to values, and when."""

from hearthrules.errors import NoRule, NoSaying, NoText
from hearthrules.names import are_pairs, is_name, is_whole, read_number
from hearthrules.sayings import Saying

MOST_DO = 4
MOST_RANK = 9
MOST_BEHIND = 3
NO_SAYING = "-"


def tell_unless(unless):
    """Tell the text of what a rule is bound by, be it none."""
    return NO_SAYING if unless is None else unless.text


def tell_do(do):
    """Tell the text of what a rule does."""
    return ", ".join([f"{thing} {value}" for thing, value in do])


def read_unless(text):
    """Read what `tell_unless` tells."""
    return None if text == NO_SAYING else Saying(text)


def read_do(text):
    """Read what `tell_do` tells; of other texts it makes what no rule does."""
    return tuple([tuple(pair.split(" ")) for pair in text.split(", ")])


class Rule:
    """A rule: when it is due, unless what, and the values that it pulls things to."""

    def __init__(self, name, when, do, rank=0, behind=0, unless=None):
        if not is_name(name):
            raise NoRule("name")
        if not isinstance(when, Saying):
            raise NoRule("when")
        if not are_pairs(do, 1, MOST_DO):
            raise NoRule("do")
        if not is_whole(rank, 0, MOST_RANK):
            raise NoRule("rank")
        if not is_whole(behind, 0, MOST_BEHIND):
            raise NoRule("behind")
        if unless is not None and not isinstance(unless, Saying):
            raise NoRule("unless")
        self.name = name
        self.when = when
        self.do = do
        self.rank = rank
        self.behind = behind
        self.unless = unless

    def __eq__(self, other):
        return (isinstance(other, Rule) and self.name == other.name and self.when == other.when
                and self.do == other.do and self.rank == other.rank and self.behind == other.behind
                and self.unless == other.unless)

    def __repr__(self):
        return f"Rule({self.name})"

    def __str__(self):
        parts = [f"{self.name} {self.rank} {self.behind}", self.when.text, tell_unless(self.unless), tell_do(self.do)]
        return " | ".join(parts)


def read_rule(text):
    """Read a rule's text; TEXT may be of any kind."""
    parts = text.split(" | ") if isinstance(text, str) else []
    if len(parts) != 4:
        raise NoText(0)
    head = parts[0].split(" ")
    if len(head) != 3:
        raise NoText(0)
    try:
        return Rule(head[0], Saying(parts[1]), read_do(parts[3]),
                    read_number(head[1]), read_number(head[2]), read_unless(parts[2]))
    except (NoSaying, NoRule):
        raise NoText(0) from None
