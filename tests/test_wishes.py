import random
import unittest

from hearthrules.books import Book
from hearthrules.courses import Course, plain
from hearthrules.errors import HearthError, NoBook, NoNumber, TooMany
from hearthrules.houses import House
from hearthrules.machines import made
from hearthrules.sayings import Saying
from hearthrules.wishes import always
from oddities import odd_things
from readings import WIDE, book_of, moments_on, plain_search, some_book, some_house, some_saying, standings_ahead_of

HOUSE = House((("rain", ("no", "yes")),), (("heat", ("off", "on")), ("lamp", ("off", "on"))), 3)
BARE = House((), HOUSE.inner, 2)
NO, YES = ("no",), ("yes",)
WET = book_of(HOUSE, "wet 0 1 | rain is yes | - | lamp on")
# Dark at the first moment, lit from the second one on.
LATE = book_of(HOUSE, "a 0 1 | hour 0 to 2 | - | lamp on")
DARK, LIT = Saying("lamp is off"), Saying("lamp is on")


def broken(*outers, house=HOUSE):
    return "broken", plain(house, outers)


def table_of(book):
    return tuple(sorted(made(book).standings))


class Case(unittest.TestCase):
    def assert_told(self, book, told, *more):
        """The answer, its kinds, that it is told again, and that what was handed in stays as it was."""
        texts = str(book), str(more[0])
        got = always(book, *more)
        self.assertEqual(got, told)
        self.assertIs(type(got), tuple)
        self.assertIs(type(got[1]), Course if got[0] == "broken" else tuple)
        self.assertEqual(always(book, *more), got)
        self.assertEqual((str(book), str(more[0])), texts)


class FromTheFirstTest(Case):
    def test_always(self):
        self.assert_told(WET, ("always", table_of(WET)), Saying("heat is off"))
        self.assert_told(WET, ("always", table_of(WET)), Saying("rain is no or rain is yes"), 0)
        self.assert_told(Book(BARE), ("always", ((0, ("off", "off"), ()), (1, ("off", "off"), ()))), DARK)

    def test_broken(self):
        self.assert_told(WET, broken(YES, YES), DARK)
        self.assert_told(WET, broken(NO), LIT)
        self.assert_told(WET, broken(YES), Saying("rain is no"))
        self.assert_told(WET, broken(NO), Saying("rain is yes"))
        self.assert_told(WET, broken(YES, YES, NO), Saying("lamp is off or rain is yes"))
        self.assert_told(Book(BARE), broken((), (), house=BARE), Saying("hour 0"))

    def test_the_hour_is_that_of_the_moment(self):
        book = book_of(HOUSE, "a 0 0 | hour 0 | - | lamp on", "b 0 0 | not hour 0 | - | lamp off")
        self.assert_told(book, ("always", table_of(book)), Saying("lamp is on and hour 0 or lamp is off and hour 1 to 2"))
        self.assert_told(book, broken(NO, NO, NO), Saying("hour 0 to 1"))

    def test_the_values_are_those_at_the_end(self):
        book = book_of(HOUSE, "a 0 0 | rain is yes and heat is off | - | lamp on", "b 1 0 | lamp is on | - | heat on, lamp off")
        self.assertEqual(len(moments_on(book, plain(HOUSE, (YES,)))[0]), 3)
        # The lamp is lit in a round of the moment, and dark again at its end.
        self.assert_told(book, ("always", table_of(book)), DARK)
        self.assert_told(book, broken(YES), Saying("heat is off"))

    def test_it_hangs_on_behind_and_on_the_hour(self):
        book = book_of(HOUSE, "a 0 2 | rain is yes | - | lamp on", "b 0 0 | hour 0 and lamp is on | - | heat on")
        self.assert_told(book, broken(NO, YES, YES, YES), Saying("heat is off"))
        self.assert_told(book, broken(YES, YES, YES), Saying("not ( hour 2 and lamp is on )"))

    def test_of_as_many_moments_the_lesser_outers(self):
        house = House((("door", ("wide", "shut")), ("rain", ("yes", "no"))), HOUSE.inner, 1)
        book = book_of(house, "a 0 0 | door is shut | - | lamp on", "b 0 0 | rain is no | - | heat on")
        self.assert_told(book, broken(("wide", "no"), house=house), Saying("lamp is off and heat is off"))
        self.assert_told(book, broken(("shut", "yes"), house=house), Saying("lamp is off"))
        self.assert_told(book, broken(("wide", "no"), ("shut", "yes"), house=house), Saying("not ( lamp is on and heat is on and rain is yes )"))


def plain_answer(book, saying, after, most=6):
    """What a plain search of all courses tells, None where it doesn't go far enough to tell."""
    names = [name for name, values in book.house.outer + book.house.inner]

    def fails(told, row):
        return row >= after and not saying.so(told.hour, dict(zip(names, told.outer + told.ends)))
    found = plain_search(book, fails, after + most)
    if found is not None:
        return "broken", found
    return "always", standings_ahead_of(book, after, book.size())


class AfterTest(Case):
    def test_broken_only_ahead(self):
        self.assert_told(LATE, broken(NO), LIT)
        self.assert_told(LATE, broken(NO), LIT, 0)
        table = ((0, ("off", "off"), (0,)), (0, ("off", "on"), (1,)), (1, ("off", "off"), (1,)), (1, ("off", "on"), (1,)),
                 (2, ("off", "on"), (1,)))
        self.assertEqual(table_of(LATE), table)
        self.assert_told(LATE, ("always", table[1:]), LIT, 1)
        self.assertEqual(always(LATE, LIT, after=1), ("always", table[1:]))
        lit = (table[1], table[3], table[4])
        for after in (2, 3, 4, 5, 59, 60):
            self.assert_told(LATE, ("always", lit), LIT, after)

    def test_table_for_none_and_for_more(self):
        self.assert_told(LATE, ("always", table_of(LATE)), Saying("heat is off"), 0)
        self.assert_told(LATE, ("always", table_of(LATE)[1:]), Saying("heat is off"), 1)
        for after in (0, 1, 2, 3, 7, 60):
            self.assert_told(WET, ("always", standings_ahead_of(WET, after, 20)), Saying("heat is off"), after)

    def test_broken_at_the_row_or_behind_it(self):
        self.assert_told(WET, broken(NO, YES, YES), DARK, 2)
        self.assert_told(WET, broken(YES, YES), DARK, 1)
        self.assert_told(WET, broken(*[NO] * 59, YES, YES), DARK, 60)
        self.assert_told(WET, broken(*[NO] * 61), LIT, 60)
        self.assert_told(LATE, broken(*[NO] * 61), DARK, 60)
        # The saying is broken ahead of the row already; the course told goes on to the row all the same.
        self.assert_told(LATE, broken(NO, NO, NO), DARK, 2)
        self.assert_told(Book(HOUSE), broken(*[NO] * 6), Saying("hour 0 to 1"), 4)
        self.assert_told(Book(HOUSE), broken(*[NO] * 6), Saying("hour 0 to 1"), 3)
        self.assert_told(Book(HOUSE), broken(*[NO] * 3), Saying("hour 0 to 1"), 2)

    def test_what_comes_back_only_once_in_a_round(self):
        book = book_of(BARE, "a 0 0 | hour 0 | - | lamp on", "b 0 0 | hour 1 | - | lamp off")
        self.assert_told(book, broken(*[()] * 4, house=BARE), Saying("lamp is on"), 2)
        self.assert_told(book, broken(*[()] * 4, house=BARE), Saying("lamp is on"), 3)
        self.assert_told(book, broken(*[()] * 62, house=BARE), Saying("lamp is on"), 60)


class RefusalTest(Case):
    def assert_refused(self, kind, *parts, **more):
        with self.assertRaises(kind) as caught:
            always(*parts, **more)
        self.assertIs(type(caught.exception), kind)
        self.assertIsInstance(caught.exception, HearthError)
        return caught.exception

    def wrong_sayings(self):
        return [Saying("fan is off"), Saying("lamp is dim"), Saying("rain is on"), Saying("hour 3"), Saying("hour 0 to 3"),
                Saying("lamp is off or fan is off"), Saying("not hour 99"), "lamp is off", (DARK,), [DARK], Saying, WET, HOUSE] + odd_things()

    def test_what_is_no_saying_of_the_house(self):
        for saying in self.wrong_sayings():
            self.assertIsNone(self.assert_refused(NoBook, WET, saying).rule)
            self.assertIsNone(self.assert_refused(NoBook, WET, saying, 3).rule)

    def test_what_is_no_number_of_a_row(self):
        for after in [-1, 61, 100, "0", "", (0,), [], 10 ** 30, -10 ** 30, DARK, False] + odd_things():
            self.assert_refused(NoNumber, WET, DARK, after)
            self.assert_refused(NoNumber, WET, DARK, after=after)

    def test_too_many(self):
        for after in (0, 60):
            error = self.assert_refused(TooMany, Book(WIDE), Saying("lamp is a"), after)
            self.assertEqual((error.many, error.most), (512, 400))
        error = self.assert_refused(TooMany, book_of(WIDE, "a 0 2 | hour 0 | - | lamp b"), Saying("lamp is a"))
        self.assertEqual((error.many, error.most), (1536, 400))

    def test_which_comes_first(self):
        for saying in self.wrong_sayings():
            for after in (-1, 61, True, "x", None):
                self.assertIsNone(self.assert_refused(NoBook, WET, saying, after).rule)
                self.assertIsNone(self.assert_refused(NoBook, Book(WIDE), saying, after).rule)
        for after in (-1, 61, True, "x", None):
            self.assert_refused(NoNumber, Book(WIDE), Saying("lamp is a"), after)


class ByChanceTest(Case):
    def test_as_a_plain_search_has_it(self):
        chance = random.Random(31)
        seen = {}
        for turn in range(200):
            house = some_house(chance)
            book = some_book(chance, house)
            saying = some_saying(chance, house)
            after = chance.choice([0, 0, 1, 2, 3])
            got = always(book, saying, after)
            told = plain_answer(book, saying, after, 3)
            if got[0] == "broken" and len(got[1]) > after + 3:
                self.assertEqual(told[0], "always")
                names = [name for name, values in house.outer + house.inner]
                so = [saying.so(one.hour, dict(zip(names, one.outer + one.ends))) for one in moments_on(book, got[1])]
                self.assertEqual(so[after:], [True] * (len(so) - after - 1) + [False])
            else:
                self.assertEqual(got, told)
            key = got[0], min(after, 1), got[0] == "broken" and len(got[1]) > after + 1
            seen[key] = seen.get(key, 0) + 1
        self.assertEqual(len(seen), 6, seen)
        self.assertGreater(min(seen.values()), 3, seen)


if __name__ == "__main__":
    unittest.main()
