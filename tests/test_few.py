import itertools
import random
import unittest

from hearthrules.books import Book
from hearthrules.checker import holds
from hearthrules.courses import Course, plain
from hearthrules.errors import HearthError, TooMany
from hearthrules.few import fewest
from hearthrules.houses import House
from hearthrules.machines import made
from hearthrules.pairs import parted
from readings import WIDE, book_of, plain_parting, some_book, some_house

HOUSE = House((("rain", ("no", "yes")),), (("heat", ("off", "on")), ("lamp", ("off", "on"))), 2)
NO, YES = ("no",), ("yes",)


def course_of(*outers, house=HOUSE):
    return plain(house, outers)


def some_rules(book, names):
    return Book(book.house, tuple(book.named(name) for name in names))


def by_another_reading(book):
    """The fewest rules by least machines, and the paper by single questions."""
    every = [rule.name for rule in book.rules]
    sets = [names for many in range(len(every) + 1) for names in itertools.combinations(every, many)]
    least = made(book).least()
    names = next(names for names in sets if made(some_rules(book, names)).least() == least)
    return names, tuple((some, parted(book, some_rules(book, some))) for some in sets if len(some) < len(names))


class FewestTest(unittest.TestCase):
    def assert_told(self, book, names, paper):
        text = str(book)
        got = fewest(book)
        self.assertEqual(got, (names, paper))
        self.assertEqual([type(part) for part in got + got[1]], [tuple] * (2 + len(paper)))
        for some, course in got[1]:
            self.assertIs(type(some), tuple)
            self.assertIs(type(course), Course)
        self.assertEqual(fewest(book), got)
        self.assertEqual(str(book), text)

    def test_no_rule(self):
        self.assert_told(Book(HOUSE), (), ())

    def test_one_rule(self):
        self.assert_told(book_of(HOUSE, "a 0 0 | rain is yes | - | lamp on"), ("a",), (((), course_of(YES)),))
        self.assert_told(book_of(HOUSE, "a 0 1 | hour 0 to 1 | - | lamp on"), ("a",), (((), course_of(NO, NO)),))
        self.assert_told(book_of(HOUSE, "a 0 0 | lamp is on | - | heat on"), (), ())

    def test_rules_that_never_do_a_thing(self):
        book = book_of(HOUSE, "a 0 0 | hour 0 and hour 1 | - | lamp on", "b 0 0 | lamp is off | - | lamp off",
                       "c 0 3 | lamp is on | - | heat on")
        self.assert_told(book, (), ())

    def test_a_rule_that_does_nothing_but_clash_is_wanted(self):
        book = book_of(HOUSE, "a 0 0 | rain is yes | - | lamp on", "b 0 0 | hour 1 and rain is yes | - | lamp off")
        self.assert_told(book, ("a", "b"), (((), course_of(YES)), (("a",), course_of(NO, YES)), (("b",), course_of(YES))))

    def test_two_rules_that_only_clash_are_not(self):
        book = book_of(HOUSE, "a 0 0 | rain is yes | - | lamp on", "b 0 0 | rain is yes | - | lamp off")
        self.assert_told(book, (), ())

    def test_one_that_does_what_two_others_do(self):
        book = book_of(HOUSE, "a 0 0 | rain is yes | - | heat on", "b 0 0 | rain is yes | - | lamp on",
                       "z 0 0 | rain is yes | - | heat on, lamp on")
        self.assert_told(book, ("z",), (((), course_of(YES)),))
        self.assert_told(book.without("z"), ("a", "b"), (((), course_of(YES)), (("a",), course_of(YES)), (("b",), course_of(YES))))

    def test_two_sets_of_as_few_of_which_the_first_is_told(self):
        book = book_of(HOUSE, "d 0 0 | rain is yes | - | lamp on", "c 0 0 | lamp is on | - | heat on", "b 0 0 | not rain is no | - | lamp on",
                       "e 0 1 | rain is yes | - | lamp on")
        rows = ((), ("b",), ("c",), ("d",), ("e",))
        self.assert_told(book, ("b", "c"), tuple((some, course_of(YES)) for some in rows))
        twice = book_of(HOUSE, "y 0 0 | rain is yes | - | lamp on", "x 0 0 | rain is yes | - | lamp on")
        self.assert_told(twice, ("x",), (((), course_of(YES)),))

    def test_the_paper_by_the_fewest_first_each_rising(self):
        book = book_of(HOUSE, "c 0 0 | rain is yes | - | lamp on", "a 0 0 | lamp is on and hour 0 | - | heat on", "b 1 1 | rain is no | - | lamp off")
        names, paper = fewest(book)
        self.assertEqual(names, ("a", "b", "c"))
        self.assertEqual(paper, (
            ((), course_of(YES)), (("a",), course_of(YES)), (("b",), course_of(YES)), (("c",), course_of(YES)),
            (("a", "b"), course_of(YES)), (("a", "c"), course_of(YES, NO, NO)), (("b", "c"), course_of(YES))))

    def test_no_outer_thing(self):
        house = House((), HOUSE.inner, 2)
        book = book_of(house, "a 0 0 | hour 1 | - | lamp on", "b 0 1 | hour 1 | - | lamp on", "c 0 0 | lamp is on and hour 0 | - | heat on")
        self.assert_told(book, ("a", "c"), (((), course_of((), (), house=house)), (("a",), course_of((), (), (), house=house)),
                                            (("b",), course_of((), (), house=house)), (("c",), course_of((), (), house=house))))

    def test_four_and_five_rules(self):
        house = House((("rain", ("no", "yes")),), tuple((name, ("off", "on")) for name in ("bell", "fan", "heat", "lamp")), 5)
        texts = [f"{name} 0 0 | rain is yes and hour {at} | - | {thing} on" for at, (name, thing) in enumerate(
            zip("abcd", ("bell", "fan", "heat", "lamp")))] + ["e 0 0 | rain is yes and hour 4 | - | bell off"]
        for many in (4, 5):
            book = book_of(house, *texts[:many])
            got = fewest(book)
            self.assertEqual(got, by_another_reading(book))
            self.assertEqual(got[0], tuple("abcde"[:many]))
            self.assertEqual(len(got[1]), 2 ** many - 1)
            self.assertEqual(dict(got[1])[tuple("abcd"[:3])], course_of(NO, NO, NO, YES, house=house))
        self.assertEqual(dict(got[1])[tuple("abcd")], course_of(YES, NO, NO, NO, YES, house=house))


class RefusalTest(unittest.TestCase):
    def assert_too_many(self, book, many, most):
        with self.assertRaises(TooMany) as caught:
            fewest(book)
        self.assertIs(type(caught.exception), TooMany)
        self.assertIsInstance(caught.exception, HearthError)
        self.assertEqual((caught.exception.many, caught.exception.most), (many, most))

    def test_six_rules(self):
        book = book_of(HOUSE, *[f"{name} 0 0 | hour 0 | - | lamp on" for name in "abcdef"])
        self.assert_too_many(book, 6, 5)
        self.assertEqual(fewest(book.without("c"))[0], ("a",))

    def test_too_many_standings(self):
        self.assert_too_many(Book(WIDE), 512, 400)
        self.assert_too_many(book_of(WIDE, "a 0 1 | hour 0 | - | lamp b"), 1024, 400)

    def test_six_rules_ahead_of_too_many_standings(self):
        self.assert_too_many(book_of(WIDE, *[f"{name} 0 0 | hour 0 | - | lamp b" for name in "abcdef"]), 6, 5)
        self.assert_too_many(book_of(WIDE, *[f"{name} 0 0 | hour 0 | - | lamp b" for name in "abcde"]), 512, 400)


class ByChanceTest(unittest.TestCase):
    def test_as_another_reading_has_it(self):
        chance = random.Random(51)
        seen = {}
        for turn in range(60):
            book = some_book(chance, some_house(chance))
            got = fewest(book)
            self.assertEqual(got, by_another_reading(book))
            for some, course in got[1]:
                if len(course) <= 4:
                    self.assertEqual(course, plain_parting(book, some_rules(book, some), 4))
            self.assertLessEqual(set(got[0]), {rule.name for rule in book.rules})
            key = len(got[0]), len(book) > len(got[0])
            seen[key] = seen.get(key, 0) + 1
        self.assertGreater(len(seen), 6, seen)

    def test_the_checker_takes_what_is_told(self):
        chance = random.Random(52)
        for turn in range(25):
            book = some_book(chance, some_house(chance))
            names, paper = fewest(book)
            for some, course in paper:
                self.assertIs(holds(("parted", book, some_rules(book, some)), course), True)


if __name__ == "__main__":
    unittest.main()
