import random
import unittest

from hearthrules.books import Book
from hearthrules.checker import holds
from hearthrules.comes import clash, doing, restless
from hearthrules.courses import Course, plain
from hearthrules.errors import NoBook, NoName, NoPair, TooMany
from hearthrules.few import fewest
from hearthrules.houses import House, all_outer
from hearthrules.machines import made
from hearthrules.moments import first_standing, moment
from hearthrules.pairs import parted
from hearthrules.papers import paper_alike, paper_always, paper_clash, paper_doing, paper_fewest, paper_rests
from hearthrules.sayings import Saying
from hearthrules.wishes import always
from oddities import odd_things
from readings import WIDE, book_of, some_book, some_house, some_saying

HOUSE = House((("rain", ("no", "yes")),), (("heat", ("off", "on")), ("lamp", ("off", "on"))), 2)
NO, YES = ("no",), ("yes",)
CALM = book_of(HOUSE, "a 0 1 | rain is yes | - | lamp on", "b 0 0 | hour 1 and hour 0 | - | heat on")
CLASHING = book_of(HOUSE, "a 0 1 | rain is yes | - | lamp on", "b 0 0 | hour 1 | - | lamp off")
RESTLESS = book_of(HOUSE, "a 0 0 | rain is yes and lamp is off | - | lamp on", "b 0 0 | lamp is on | - | lamp off")
SPARE = book_of(HOUSE, "a 0 0 | rain is yes | - | lamp on", "b 0 0 | lamp is on | - | heat on", "c 0 0 | lamp is on | - | heat on",
                "d 0 1 | rain is yes | - | lamp on")
CONTRARY = {"clash": "no clash", "no clash": "clash", "restless": "rests", "rests": "restless", "doing": "no doing", "no doing": "doing",
            "always": "broken", "broken": "always", "alike": "parted", "parted": "alike"}


def table_of(book):
    return tuple(sorted(made(book).standings))


def pairs_of(book, other):
    """All pairs of standings that come together."""
    todo, seen = [(first_standing(book), first_standing(other))], set()
    while todo:
        one, two = todo.pop()
        if (one, two) not in seen:
            seen.add((one, two))
            todo += [(moment(book, one, outer).standing, moment(other, two, outer).standing) for outer in all_outer(book.house)]
    return tuple(sorted(seen))


def course_of(*outers):
    return plain(HOUSE, outers)


class Case(unittest.TestCase):
    def assert_paper(self, claim, paper, question, *parts):
        """The claim and its paper, that the checker takes them, and that it takes nothing for the other answer."""
        got = question(*parts)
        self.assertEqual(got, (claim, paper))
        self.assertEqual([type(part) for part in (got, got[0])], [tuple, tuple])
        self.assertIs(holds(*got), True)
        if claim[0] in CONTRARY:
            self.assertIs(holds((CONTRARY[claim[0]], *claim[1:]), paper), False)
        self.assertEqual(question(*parts), got)

    def assert_refused(self, kind, question, *parts):
        with self.assertRaises(kind) as caught:
            question(*parts)
        self.assertIs(type(caught.exception), kind)
        return caught.exception


class AnswersTest(Case):
    def test_clash(self):
        self.assert_paper(("clash", CLASHING), course_of(YES, YES), paper_clash, CLASHING)
        self.assert_paper(("no clash", CALM), table_of(CALM), paper_clash, CALM)
        self.assert_paper(("no clash", Book(HOUSE)), table_of(Book(HOUSE)), paper_clash, Book(HOUSE))

    def test_rests(self):
        self.assert_paper(("restless", RESTLESS), course_of(YES), paper_rests, RESTLESS)
        self.assert_paper(("rests", CALM), table_of(CALM), paper_rests, CALM)

    def test_doing(self):
        self.assert_paper(("doing", CALM, "a"), course_of(YES, YES), paper_doing, CALM, "a")
        self.assert_paper(("no doing", CALM, "b"), table_of(CALM), paper_doing, CALM, "b")

    def test_always(self):
        dark = Saying("lamp is off")
        self.assert_paper(("broken", CALM, dark), course_of(YES, YES), paper_always, CALM, dark)
        cold = Saying("heat is off and ( hour 0 or hour 1 )")
        self.assert_paper(("always", CALM, cold), table_of(CALM), paper_always, CALM, cold)

    def test_alike(self):
        self.assert_paper(("parted", SPARE, CALM), course_of(YES), paper_alike, SPARE, CALM)
        self.assert_paper(("parted", CALM, SPARE), course_of(YES), paper_alike, CALM, SPARE)
        two = SPARE.without("b")
        self.assert_paper(("alike", SPARE, two), pairs_of(SPARE, two), paper_alike, SPARE, two)
        self.assert_paper(("alike", two, SPARE), pairs_of(two, SPARE), paper_alike, two, SPARE)
        self.assert_paper(("alike", CALM, CALM), tuple((one, one) for one in table_of(CALM)), paper_alike, CALM, CALM)

    def test_fewest(self):
        paper = tuple((some, course_of(YES)) for some in ((), ("a",), ("b",), ("c",), ("d",)))
        self.assertEqual(fewest(SPARE), (("a", "b"), paper))
        few = Book(HOUSE, (SPARE.named("a"), SPARE.named("b")))
        self.assert_paper(("fewest", SPARE, ("a", "b")), (pairs_of(SPARE, few), paper), paper_fewest, SPARE)
        self.assert_paper(("fewest", Book(HOUSE), ()), (pairs_of(Book(HOUSE), Book(HOUSE)), ()), paper_fewest, Book(HOUSE))
        one = Book(HOUSE, (SPARE.named("a"),))
        self.assert_paper(("fewest", one, ("a",)), (pairs_of(one, one), (((), course_of(YES)),)), paper_fewest, one)
        for names in ((), ("a",), ("a", "d"), ("b", "c"), ("a", "b", "c")):
            self.assertIs(holds(("fewest", SPARE, names), paper_fewest(SPARE)[1]), False)


class RefusalTest(Case):
    def test_too_many(self):
        wide = book_of(WIDE, "a 0 0 | hour 0 | - | lamp b")
        for question, more in ((paper_clash, ()), (paper_rests, ()), (paper_doing, ("a",)), (paper_always, (Saying("lamp is a"),)),
                               (paper_alike, (wide,)), (paper_alike, (Book(WIDE),)), (paper_fewest, ())):
            error = self.assert_refused(TooMany, question, wide, *more)
            self.assertEqual((error.many, error.most), (512, 400))

    def test_doing(self):
        for name in ["c", "lamp", 0] + odd_things():
            self.assertIs(self.assert_refused(NoName, paper_doing, CALM, name).name, name)
            self.assertIs(self.assert_refused(NoName, paper_doing, Book(WIDE), name).name, name)

    def test_always(self):
        for saying in [Saying("fan is off"), Saying("lamp is dim"), Saying("hour 2"), "lamp is off"] + odd_things():
            self.assertIsNone(self.assert_refused(NoBook, paper_always, CALM, saying).rule)
            self.assertIsNone(self.assert_refused(NoBook, paper_always, Book(House((), WIDE.inner, 1)), saying).rule)

    def test_alike(self):
        other = House(HOUSE.outer, HOUSE.inner, 3)
        self.assert_refused(NoPair, paper_alike, CALM, Book(other))
        self.assert_refused(NoPair, paper_alike, Book(WIDE), CALM)
        self.assert_refused(NoPair, paper_alike, CALM, Book(WIDE))

    def test_alike_too_many_by_the_first(self):
        house = House((), (("a", ("x", "y", "z", "w")), ("b", ("x", "y", "z", "w")), ("c", ("x", "y"))), 6)
        one, two = book_of(house, "p 0 2 | hour 0 | - | a y"), book_of(house, "p 0 3 | hour 0 | - | a y")
        for books, many in (((one, two), 576), ((two, one), 768), ((Book(house), two), 768), ((one, Book(house)), 576)):
            self.assertEqual(self.assert_refused(TooMany, paper_alike, *books).many, many)

    def test_fewest(self):
        for house, lamp in ((HOUSE, "on"), (WIDE, "b")):
            six = book_of(house, *[f"{name} 0 0 | hour 0 | - | lamp {lamp}" for name in "abcdef"])
            error = self.assert_refused(TooMany, paper_fewest, six)
            self.assertEqual((error.many, error.most), (6, 5))


class ByChanceTest(Case):
    def test_whatever_the_house_tells_the_checker_takes(self):
        chance = random.Random(81)
        seen = {}
        for turn in range(120):
            house = some_house(chance)
            book = some_book(chance, house, 4)
            other = book.without(chance.choice(book.rules).name) if len(book) and turn % 2 else some_book(chance, house, 3)
            saying = some_saying(chance, house)
            told = [(paper_clash(book), clash(book)[1]), (paper_rests(book), restless(book)[1]), (paper_always(book, saying), always(book, saying)[1]),
                    (paper_alike(book, other), parted(book, other) or pairs_of(book, other))]
            told += [(paper_doing(book, rule.name), doing(book, rule.name)[1]) for rule in book.rules]
            for (claim, paper), same in told:
                self.assertEqual(paper, same)
                self.assertIs(holds(claim, paper), True)
                self.assertIs(holds((CONTRARY[claim[0]], *claim[1:]), paper), False)
                self.assertIs(isinstance(paper, Course), claim[0] in ("clash", "restless", "doing", "broken", "parted"))
                seen[claim[0]] = seen.get(claim[0], 0) + 1
            claim, paper = paper_fewest(book)
            self.assertIs(holds(claim, paper), True)
            few = Book(house, tuple(book.named(name) for name in claim[2]))
            self.assertEqual((claim[2], paper[1], paper[0]), (*fewest(book), pairs_of(book, few)))
        self.assertEqual(sorted(seen), sorted(CONTRARY))


if __name__ == "__main__":
    unittest.main()
