import random
import unittest

from hearthrules.books import Book
from hearthrules.comes import clash, doing, restless, silent
from hearthrules.courses import Course, plain
from hearthrules.errors import HearthError, LostError, NoName, NoThing, TooMany
from hearthrules.houses import House
from hearthrules.machines import made
from oddities import odd_things
from readings import WIDE, book_of, moments_on, plain_search, some_book, some_house

HOUSE = House((("rain", ("no", "yes")),), (("heat", ("off", "on")), ("lamp", ("off", "on"))), 3)
BARE = House((), HOUSE.inner, 2)
NO, YES = ("no",), ("yes",)


def comes(*outers, house=HOUSE):
    return "comes", plain(house, outers)


def never(book):
    return "never", tuple(sorted(made(book).standings))


class Case(unittest.TestCase):
    def assert_told(self, question, book, told, *more):
        """The answer, its kinds, that it is told again, and that the book stays as it was."""
        text = str(book)
        got = question(book, *more)
        self.assertEqual(got, told)
        self.assertIs(type(got), tuple)
        self.assertIs(type(got[1]), Course if got[0] == "comes" else tuple)
        self.assertEqual(question(book, *more), got)
        self.assertEqual(str(book), text)

    def assert_too_many(self, book, question, *more):
        with self.assertRaises(TooMany) as caught:
            question(book, *more)
        self.assertIs(type(caught.exception), TooMany)
        self.assertIsInstance(caught.exception, HearthError)
        self.assertEqual((caught.exception.many, caught.exception.most), (book.size(), 400))

    def assert_lost(self, kind, name, question, *parts, **more):
        with self.assertRaises(kind) as caught:
            question(*parts, **more)
        self.assertIs(type(caught.exception), kind)
        self.assertIsInstance(caught.exception, LostError)
        self.assertIs(caught.exception.name, name)


class LeastCourseTest(Case):
    def test_one_moment(self):
        book = book_of(HOUSE, "a 0 0 | rain is yes | - | lamp on", "b 0 0 | rain is yes | - | lamp off")
        self.assert_told(clash, book, comes(YES))
        self.assert_told(doing, book_of(HOUSE, "a 0 0 | rain is no | - | lamp on"), comes(NO), "a")
        book = book_of(HOUSE, "a 0 0 | lamp is off | - | lamp on", "b 0 0 | lamp is on and rain is yes | - | lamp off")
        self.assert_told(restless, book, comes(YES))

    def test_several_moments(self):
        book = book_of(HOUSE, "a 0 0 | rain is yes | - | lamp on", "b 0 0 | lamp is on and hour 1 | - | heat on",
                       "c 0 0 | heat is on and rain is yes | - | lamp off")
        self.assert_told(doing, book, comes(NO, YES), "b")
        self.assert_told(clash, book, comes(NO, YES))
        self.assert_told(doing, book, comes(YES), "a")
        book = book_of(HOUSE, "a 0 0 | hour 2 and lamp is off | - | lamp on", "b 0 0 | lamp is on and rain is yes | - | lamp off")
        self.assert_told(restless, book, comes(NO, NO, YES))

    def test_one_that_needs_the_hour_to_come_round(self):
        book = book_of(HOUSE, "late 0 0 | hour 2 and rain is yes | - | lamp on", "morn 0 0 | hour 0 and lamp is on | - | heat on")
        self.assert_told(doing, book, comes(NO, NO, YES, NO), "morn")
        book = book_of(HOUSE, "late 0 0 | hour 2 and rain is yes | - | lamp on", "a 0 0 | hour 1 and lamp is on | - | heat on",
                       "b 0 0 | hour 1 | - | heat off")
        self.assert_told(clash, book, comes(NO, NO, YES, NO, NO))

    def test_one_that_hangs_on_behind(self):
        for behind in range(4):
            book = book_of(HOUSE, f"wet 0 {behind} | rain is yes | - | lamp on", "off 0 0 | rain is yes | - | lamp off")
            self.assert_told(clash, book, comes(*[YES] * (behind + 1)))
            self.assert_told(doing, book.without("off"), comes(*[YES] * (behind + 1)), "wet")
        book = book_of(HOUSE, "a 0 2 | rain is yes | - | lamp on", "b 0 1 | rain is no and lamp is on | - | heat on")
        self.assert_told(doing, book, comes(YES, YES, YES, NO, NO), "b")

    def test_of_as_many_moments_the_lesser_outers(self):
        house = House((("door", ("wide", "shut")), ("rain", ("yes", "no"))), HOUSE.inner, 1)
        book = book_of(house, "a 0 0 | door is shut and lamp is off | - | lamp on", "b 0 0 | rain is no and heat is off | - | heat on",
                       "c 1 1 | lamp is on or heat is on | - | heat off, lamp off")
        # Values go by their own order, not by letters: wide is ahead of shut, yes ahead of no.
        self.assert_told(doing, book, comes(("wide", "no"), ("wide", "yes"), house=house), "c")
        self.assert_told(doing, book, comes(("shut", "yes"), house=house), "a")
        self.assert_told(doing, book, comes(("wide", "no"), house=house), "b")

    def test_the_first_that_is_unlike_counts(self):
        book = book_of(HOUSE, "a 0 0 | rain is yes and hour 0 | - | lamp on", "b 0 0 | rain is yes and hour 1 | - | heat on",
                       "c 0 0 | hour 2 and lamp is on | - | lamp off", "d 0 0 | hour 2 and heat is on and rain is yes | - | lamp on")
        # YES, NO, NO makes `c` do something, NO, YES, YES makes `d`.
        self.assert_told(doing, book, comes(YES, NO, NO), "c")
        self.assert_told(doing, book, comes(NO, YES, YES), "d")
        self.assert_told(clash, book, comes(NO, YES, YES))
        either = book_of(HOUSE, *[str(rule) for rule in book.rules[:2]], "e 0 0 | hour 2 and ( lamp is on or heat is on ) | - | heat on, lamp on")
        self.assert_told(doing, either, comes(NO, YES, NO), "e")

    def test_no_outer_thing(self):
        book = book_of(BARE, "a 0 0 | hour 1 | - | lamp on", "b 0 2 | lamp is on | - | heat on", "c 0 0 | heat is on and lamp is off | - | heat off")
        self.assert_told(doing, book, comes((), (), house=BARE), "a")
        self.assert_told(doing, book, comes((), (), (), (), house=BARE), "b")
        self.assert_told(doing, book, never(book), "c")
        self.assert_told(clash, book, never(book))
        self.assert_told(restless, book, never(book))

    def test_table_by_hand(self):
        house = House((("rain", ("no", "yes")),), (("lamp", ("on", "dim")),), 1)
        book = book_of(house, "a 0 1 | rain is yes | - | lamp dim")
        table = ((0, ("dim",), (0,)), (0, ("dim",), (1,)), (0, ("on",), (0,)), (0, ("on",), (1,)))
        for question in (clash, restless):
            self.assert_told(question, book, ("never", table))
        self.assert_told(clash, book, ("never", table), "lamp")
        book = Book(BARE)
        self.assert_told(restless, book, ("never", ((0, ("off", "off"), ()), (1, ("off", "off"), ()))))

    def test_a_table_holds_what_comes_alone(self):
        book = book_of(HOUSE, "a 0 3 | lamp is on | - | heat on")
        self.assert_told(doing, book, ("never", tuple((hour, ("off", "off"), (0,)) for hour in range(3))), "a")


class ClashTest(Case):
    BOOK = book_of(HOUSE, "a 0 0 | rain is yes | - | heat on, lamp on", "b 0 0 | rain is yes and hour 1 | - | lamp off",
                   "c 0 0 | rain is yes and hour 2 | - | heat off")

    def test_of_each_thing(self):
        self.assert_told(clash, self.BOOK, comes(NO, YES))
        self.assert_told(clash, self.BOOK, comes(NO, YES), None)
        self.assert_told(clash, self.BOOK, comes(NO, YES), "lamp")
        self.assert_told(clash, self.BOOK, comes(NO, NO, YES), "heat")
        self.assertEqual(clash(self.BOOK, thing="heat"), comes(NO, NO, YES))
        self.assertEqual(clash(self.BOOK, thing=None), comes(NO, YES))
        calm = self.BOOK.without("c")
        self.assert_told(clash, calm, comes(NO, YES))
        self.assert_told(clash, calm, never(calm), "heat")

    def test_ranks_keep_rules_from_clashing(self):
        book = book_of(HOUSE, "a 1 0 | rain is yes | - | lamp on", "b 0 0 | rain is yes | - | lamp off")
        self.assert_told(clash, book, never(book))

    def test_what_is_no_inner_thing(self):
        for name in ["rain", "on", "zoo", "p", "Lamp", "lamp ", "", 0, ("lamp",), ["lamp"], HOUSE.inner[1]] + odd_things():
            if name is not None:
                self.assert_lost(NoThing, name, clash, self.BOOK, name)
                self.assert_lost(NoThing, name, clash, self.BOOK, thing=name)
                self.assert_lost(NoThing, name, clash, Book(WIDE), name)

    def test_too_many(self):
        for more in ((), (None,), ("heat",), ("lamp",)):
            self.assert_too_many(Book(WIDE), clash, *more)


class RestlessTest(Case):
    def test_clashes_are_no_unrest(self):
        book = book_of(HOUSE, "a 0 0 | rain is yes | - | lamp on", "b 0 0 | rain is yes | - | lamp off")
        self.assert_told(restless, book, never(book))

    def test_things_set_to_and_fro_in_two_moments_are_no_unrest(self):
        book = book_of(HOUSE, "a 0 1 | lamp is off | - | lamp on", "b 0 1 | lamp is on | - | lamp off")
        self.assert_told(restless, book, never(book))

    def test_too_many(self):
        self.assert_too_many(Book(WIDE), restless)


class DoingTest(Case):
    def test_of_each_rule(self):
        book = book_of(HOUSE, "a 0 0 | rain is yes | - | lamp on", "b 0 0 | rain is yes | - | lamp on", "c 0 0 | lamp is on | - | heat on")
        for name in "abc":
            self.assert_told(doing, book, comes(YES), name)

    def test_rules_that_pull_and_never_do(self):
        book = book_of(HOUSE, "a 1 0 | rain is yes | - | lamp on", "b 0 0 | rain is yes | - | lamp on",
                       "c 0 0 | rain is no | - | heat off", "d 0 1 | rain is yes | - | lamp on")
        # `b` is outranked, `c` pulls to what is so already, `d` comes too late and is outranked.
        for name in "bcd":
            self.assert_told(doing, book, never(book), name)
        clashing = book_of(HOUSE, "a 0 0 | rain is yes | - | lamp on", "b 0 0 | rain is yes | - | lamp off")
        for name in "ab":
            self.assert_told(doing, clashing, never(clashing), name)
        self.assertEqual(silent(clashing), ("a", "b"))

    def test_names_that_no_rule_has(self):
        book = book_of(HOUSE, "a 0 0 | rain is yes | - | lamp on")
        wide = book_of(WIDE, "a 0 0 | rain is yes | - | lamp b")
        for name in ["b", "lamp", "rain", "aa", "", 0, ("a",), ["a"], book.named("a")] + odd_things():
            self.assert_lost(NoName, name, doing, book, name)
            self.assert_lost(NoName, name, doing, wide, name)
            self.assert_lost(NoName, name, doing, Book(HOUSE), name)
        self.assert_too_many(wide, doing, "a")


class SilentTest(Case):
    def test_none_some_all(self):
        self.assertEqual(silent(Book(HOUSE)), ())
        book = book_of(HOUSE, "z 0 0 | rain is yes | - | lamp on", "b 0 0 | lamp is off | - | heat off", "a 0 0 | hour 1 and hour 2 | - | heat on",
                       "c 0 2 | lamp is on | - | heat on")
        self.assertEqual(silent(book), ("a", "b"))
        self.assertIs(type(silent(book)), tuple)
        self.assertEqual(silent(book.without("a").without("b")), ())
        self.assertEqual(silent(book.without("z")), ("a", "b", "c"))
        self.assertEqual(silent(book), ("a", "b"))

    def test_too_many(self):
        self.assert_too_many(Book(WIDE), silent)
        self.assert_too_many(book_of(WIDE, "a 0 1 | rain is yes | - | lamp b"), silent)


class BoundTest(Case):
    def test_the_largest_books(self):
        house = House((), (("a", ("x", "y", "z", "w")), ("b", ("x", "y", "z", "w")), ("c", ("x", "y"))), 6)
        rules = ["p 0 1 | hour 5 and c is x | - | a y, c y"]
        book = book_of(house, *rules)
        self.assertEqual(book.size(), 384)
        self.assertEqual(doing(book, "p"), never(book))
        self.assertEqual(clash(book), never(book))
        house = House((), (("a", ("x", "y", "z")), ("b", ("x", "y", "z")), ("c", ("x", "y", "z"))), 5)
        self.assert_too_many(book_of(house, "p 0 2 | hour 1 | - | a y"), restless)
        self.assertEqual(book_of(house, "p 0 2 | hour 1 | - | a y").size(), 405)

    def test_a_course_of_many_moments(self):
        house = House((), (("a", ("x", "y", "z", "w")), ("b", ("x", "y", "z", "w"))), 6)
        # Each rule waits for the hour ahead of that of the rule before it, so it comes five moments later.
        book = book_of(house, "p 0 0 | hour 0 and a is x | - | a y", "q 0 0 | hour 5 and a is y | - | a z",
                       "r 0 0 | hour 4 and a is z | - | a w", "s 0 0 | hour 3 and a is w and b is x | - | b y",
                       "t 0 0 | hour 2 and b is y | - | b z", "u 0 0 | hour 1 and b is z | - | b w")
        for at, name in enumerate("pqrst"):
            self.assert_told(doing, book, comes(*[()] * (5 * at + 1), house=house), name)
        self.assert_told(doing, book, comes(*[()] * 26, house=house), "u")


class ByChanceTest(Case):
    MOST = 5

    def assert_least(self, got, book, so):
        """What is told is what a plain search of all courses finds, as far as it goes."""
        found = plain_search(book, so, self.MOST)
        if got[0] == "never":
            self.assertEqual(got, never(book))
            self.assertIsNone(found)
        elif len(got[1]) <= self.MOST:
            self.assertEqual(got, ("comes", found))
        else:
            self.assertIsNone(found)
            told = moments_on(book, got[1])
            self.assertTrue(so(told[-1], 0))
            self.assertFalse(any(so(one, 0) for one in told[:-1]))
        return got[0], min(len(got[1]), 3) if got[0] == "comes" else 0

    def test_as_a_plain_search_has_it(self):
        chance = random.Random(21)
        seen = {}
        for turn in range(250):
            book = some_book(chance, some_house(chance))
            keys = [("clash", self.assert_least(clash(book), book, lambda told, row: told.clashes != ())),
                    ("restless", self.assert_least(restless(book), book, lambda told, row: told.restless))]
            for thing, values in book.house.inner:
                keys.append(("thing", self.assert_least(
                    clash(book, thing), book, lambda told, row: thing in dict(told.clashes))))
            for rule in book.rules:
                got = doing(book, rule.name)
                keys.append(("doing", self.assert_least(
                    got, book, lambda told, row: any(rule.name in part[3] for part in told.doings))))
                self.assertIs(rule.name in silent(book), got[0] == "never")
            for key in keys:
                seen[key] = seen.get(key, 0) + 1
        for question in ("clash", "restless", "thing", "doing"):
            for key in (("never", 0), ("comes", 1), ("comes", 2)):
                self.assertGreater(seen[question, key], 2, seen)
        for question in ("clash", "thing", "doing"):
            self.assertGreater(seen[question, ("comes", 3)], 5, seen)


if __name__ == "__main__":
    unittest.main()
