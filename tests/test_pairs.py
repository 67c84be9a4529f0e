import random
import unittest

from hearthrules.books import Book, read_book
from hearthrules.courses import Course, plain
from hearthrules.errors import HearthError, NoPair, TooMany
from hearthrules.houses import House
from hearthrules.machines import made
from hearthrules.pairs import parted
from readings import WIDE, book_of, moments_on, plain_parting, some_book, some_house, some_rule

HOUSE = House((("rain", ("no", "yes")),), (("heat", ("off", "on")), ("lamp", ("off", "on"))), 3)
BARE = House((), HOUSE.inner, 2)
NO, YES = ("no",), ("yes",)
TEXTS = ("a 0 0 | rain is yes | - | lamp on", "b 0 1 | lamp is on | - | heat on", "c 1 0 | hour 2 and rain is no | - | lamp off")
BOOK = book_of(HOUSE, *TEXTS)


def course_of(*outers, house=HOUSE):
    return plain(house, outers)


class Case(unittest.TestCase):
    def assert_parted(self, book, other, course):
        """The least course, told of both turns, and again, the books staying as they were."""
        texts = str(book), str(other)
        for one, two in ((book, other), (other, book), (book, other)):
            got = parted(one, two)
            if course is None:
                self.assertIsNone(got)
            else:
                self.assertIs(type(got), Course)
                self.assertEqual(got, course)
        self.assertEqual((str(book), str(other)), texts)


class PartedTest(Case):
    def test_with_itself(self):
        for book in (BOOK, Book(HOUSE), Book(BARE), book_of(HOUSE, "a 0 3 | rain is yes | - | lamp on")):
            self.assertIsNone(parted(book, book))
            self.assertIsNone(parted(book, read_book(str(book))))

    def test_the_same_rules_in_another_turn(self):
        self.assert_parted(BOOK, book_of(HOUSE, *TEXTS[::-1]), None)

    def test_other_rules_that_do_alike(self):
        self.assert_parted(book_of(HOUSE, "a 0 0 | rain is yes | - | lamp on"), book_of(HOUSE, "z 5 0 | not rain is no | - | lamp on"), None)
        self.assert_parted(Book(HOUSE), book_of(HOUSE, "a 0 0 | lamp is on | - | heat on"), None)
        one = book_of(HOUSE, "a 0 1 | rain is yes | - | lamp on")
        self.assert_parted(one, one.with_rule(book_of(HOUSE, "b 0 3 | rain is yes | - | lamp on").named("b")), None)

    def test_doings_and_rounds_do_not_part(self):
        one = book_of(HOUSE, "a 0 0 | rain is yes | - | heat on, lamp on")
        two = book_of(HOUSE, "a 0 0 | rain is yes | - | lamp on", "b 0 0 | lamp is on | - | heat on")
        self.assert_parted(one, two, None)

    def test_books_that_differ_at_once(self):
        self.assert_parted(book_of(HOUSE, "a 0 0 | rain is yes | - | lamp on"), Book(HOUSE), course_of(YES))
        self.assert_parted(book_of(HOUSE, "a 0 0 | rain is no | - | lamp on"), Book(HOUSE), course_of(NO))
        self.assert_parted(book_of(BARE, "a 0 0 | hour 1 | - | lamp on"), Book(BARE), course_of((), (), house=BARE))

    def test_books_that_differ_only_behind_some_moments(self):
        for one, two in ((0, 1), (1, 2), (2, 3), (0, 3), (1, 3)):
            self.assert_parted(book_of(HOUSE, f"a 0 {one} | rain is yes | - | lamp on"),
                               book_of(HOUSE, f"a 0 {two} | rain is yes | - | lamp on"), course_of(*[YES] * (one + 1)))
        late = book_of(HOUSE, "a 0 0 | hour 2 and rain is yes | - | lamp on", "b 0 0 | hour 1 and lamp is on | - | heat on")
        self.assert_parted(late, late.without("b"), course_of(NO, NO, YES, NO, NO))
        back = book_of(HOUSE, "a 0 0 | rain is yes | - | lamp on", "b 1 1 | rain is no | - | lamp off")
        self.assert_parted(back, back.without("b"), course_of(YES, NO, NO))

    def test_of_as_many_moments_the_lesser_outers(self):
        house = House((("door", ("wide", "shut")), ("rain", ("yes", "no"))), HOUSE.inner, 1)
        one = book_of(house, "a 0 0 | door is shut | - | lamp on", "b 0 0 | rain is no | - | heat on")
        self.assert_parted(one, Book(house), course_of(("wide", "no"), house=house))
        self.assert_parted(one, one.without("a"), course_of(("shut", "yes"), house=house))

    def test_books_that_part_and_meet_again(self):
        one = book_of(HOUSE, "a 0 0 | rain is yes and hour 1 | - | lamp on", "b 0 0 | hour 2 | - | lamp off")
        self.assert_parted(one, Book(HOUSE), course_of(NO, YES))

    def test_books_of_many_standings(self):
        house = House((), (("a", ("x", "y", "z", "w")), ("b", ("x", "y", "z", "w"))), 6)
        texts = ("p 0 0 | hour 0 and a is x | - | a y", "q 0 0 | hour 5 and a is y | - | a z", "r 0 0 | hour 4 and a is z | - | a w",
                 "s 0 0 | hour 3 and a is w and b is x | - | b y", "t 0 0 | hour 2 and b is y | - | b z", "u 0 0 | hour 1 and b is z | - | b w")
        book = book_of(house, *texts)
        self.assert_parted(book, book.without("u"), course_of(*[()] * 26, house=house))
        self.assert_parted(book, book.without("t"), course_of(*[()] * 21, house=house))


class RefusalTest(Case):
    def assert_refused(self, kind, *parts):
        with self.assertRaises(kind) as caught:
            parted(*parts)
        self.assertIs(type(caught.exception), kind)
        self.assertIsInstance(caught.exception, HearthError)
        return caught.exception

    def test_another_house(self):
        others = [House(HOUSE.outer, HOUSE.inner, 4), House((("rain", ("yes", "no")),), HOUSE.inner, 3), House((), HOUSE.inner, 3),
                  House(HOUSE.outer, HOUSE.inner[1:], 3), WIDE]
        for house in others:
            self.assert_refused(NoPair, Book(HOUSE), Book(house))
            self.assert_refused(NoPair, Book(house), BOOK)
        self.assertIsNone(parted(Book(HOUSE), Book(House(HOUSE.outer, HOUSE.inner, 3))))

    def test_no_pair_ahead_of_too_many(self):
        wide = House(WIDE.outer, WIDE.inner, 3)
        self.assert_refused(NoPair, Book(WIDE), Book(wide))
        self.assert_refused(NoPair, Book(wide), Book(WIDE))

    def test_too_many_by_the_first_of_both_that_is(self):
        house = House((), (("a", ("x", "y", "z", "w")), ("b", ("x", "y", "z", "w")), ("c", ("x", "y"))), 6)
        small = Book(house)
        one = book_of(house, "p 0 2 | hour 0 | - | a y")
        two = book_of(house, "p 0 3 | hour 0 | - | a y")
        for books, many in (((one, small), 576), ((small, one), 576), ((one, two), 576), ((two, one), 768), ((two, two), 768)):
            error = self.assert_refused(TooMany, *books)
            self.assertEqual((error.many, error.most), (many, 400))
        self.assertEqual(small.size(), 192)
        self.assertIsNone(parted(small, small))


class ByChanceTest(Case):
    MOST = 5

    def some_pair(self, chance):
        """Two books of one house, often all but alike."""
        house = some_house(chance)
        one = some_book(chance, house)
        if not len(one) or chance.randrange(4) == 0:
            return one, some_book(chance, house)
        name = chance.choice(one.rules).name
        two = one.without(name)
        if chance.randrange(2):
            two = two.with_rule(some_rule(chance, house, name))
        return one, two if two.size() <= 400 else one

    def test_as_a_plain_search_and_the_least_machines_have_it(self):
        chance = random.Random(41)
        seen = {}
        for turn in range(200):
            one, two = self.some_pair(chance)
            course = parted(one, two)
            self.assertIs(course is None, made(one).least() == made(two).least())
            found = plain_parting(one, two, self.MOST)
            if course is None or len(course) > self.MOST:
                self.assertIsNone(found)
            else:
                self.assertEqual(course, found)
            if course is not None:
                first, second = moments_on(one, course), moments_on(two, course)
                self.assertEqual([a.ends == b.ends for a, b in zip(first, second)], [True] * (len(course) - 1) + [False])
            key = 0 if course is None else min(len(course), 3)
            seen[key] = seen.get(key, 0) + 1
        self.assertGreater(min(seen[key] for key in range(4)), 10, seen)


if __name__ == "__main__":
    unittest.main()
