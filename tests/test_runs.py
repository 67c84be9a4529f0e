import random
import unittest

from hearthrules.books import Book, read_book
from hearthrules.courses import Course, plain
from hearthrules.errors import HearthError, NoChange, NoPair
from hearthrules.houses import House, all_outer
from hearthrules.moments import Moment, first_standing, moment
from hearthrules.runs import moved, run
from oddities import AlikeToAll, Stubborn, odd_things
from readings import book_of, some_book, some_course, some_house, some_rule
from test_moments import by_another_reading, told

HOUSE = House((("rain", ("no", "yes")),), (("heat", ("off", "on")), ("lamp", ("off", "on"))), 3)
OTHER_HOUSE = House((("rain", ("no", "yes")),), (("heat", ("off", "on")), ("lamp", ("off", "on"))), 4)
BARE = House((), HOUSE.inner, 2)
NO, YES = ("no",), ("yes",)
BOOK = book_of(HOUSE, "dry 0 0 | rain is no | - | lamp off", "warm 0 0 | lamp is on | - | heat on", "wet 0 0 | rain is yes | - | lamp on")
DRY, WET = (NO, (), (), ()), (YES, (), (), ())


def ends_of(moments):
    return [one.ends for one in moments]


def course_of(*rows, house=HOUSE):
    return Course(house, rows)


def plain_run(book, course, changes=()):
    """A run read off point 12 with dicts; the moments by the second reading of moments."""
    names = [name for name, values in book.house.inner]
    inner = {name: values[0] for name, values in book.house.inner}
    counts = {str(rule): 0 for rule in book.rules}
    books, held, hour, rows = dict(changes), set(), 0, []
    for number, (outer, hands, freed, failing) in enumerate(course.rows):
        if number in books:
            book = books[number]
            counts = {str(rule): counts.get(str(rule), 0) for rule in book.rules}
        held -= set(freed)
        for thing, value in hands:
            held.add(thing)
            if thing not in failing:
                inner[thing] = value
        standing = hour, tuple(inner[name] for name in names), tuple(counts[str(rule)] for rule in book.rules)
        row = by_another_reading(book, standing, outer, tuple(sorted(held)), failing)
        rows.append(row)
        hour, ends, numbers = row[-1]
        inner = dict(zip(names, ends))
        counts = {str(rule): count for rule, count in zip(book.rules, numbers)}
    return rows


class PlainTest(unittest.TestCase):
    def test_without_rows(self):
        got = run(BOOK, Course(HOUSE))
        self.assertEqual(got, [])
        self.assertIs(type(got), list)

    def test_one_row(self):
        got = run(BOOK, course_of(WET))
        self.assertEqual(got, [moment(BOOK, first_standing(BOOK), YES)])
        self.assertIs(type(got[0]), Moment)
        self.assertEqual(told(got[0]), (0, YES, ((0, "lamp", "on", ("wet",)), (1, "heat", "on", ("warm",))), (), False, ("on", "on"),
                                        (1, ("on", "on"), (0, 0, 0))))

    def test_many_rows(self):
        got = run(BOOK, course_of(DRY, WET, DRY, DRY, WET))
        self.assertEqual(ends_of(got), [("off", "off"), ("on", "on"), ("on", "off"), ("on", "off"), ("on", "on")])
        self.assertEqual([one.hour for one in got], [0, 1, 2, 0, 1])
        self.assertEqual([one.outer for one in got], [NO, YES, NO, NO, YES])
        self.assertEqual(len(run(BOOK, course_of(*[DRY] * 999))), 999)

    def test_the_list_is_the_askers_own(self):
        course = course_of(WET, DRY)
        texts = str(BOOK), course.rows
        got = run(BOOK, course)
        kept = list(got)
        got.clear()
        self.assertEqual(run(BOOK, course), kept)
        self.assertIsNot(run(BOOK, course), run(BOOK, course))
        self.assertEqual((str(BOOK), course.rows), texts)

    def test_no_outer_thing(self):
        book = book_of(BARE, "a 0 1 | hour 0 | - | lamp on", "b 0 2 | lamp is off | - | lamp on")
        self.assertEqual(ends_of(run(book, course_of(*[((), (), (), ())] * 3, house=BARE))), [("off", "off"), ("off", "off"), ("off", "on")])


class HandsTest(unittest.TestCase):
    def assert_ends(self, rows, *ends, book=BOOK):
        got = run(book, course_of(*rows))
        self.assertEqual([" ".join(row) for row in ends_of(got)], list(ends))
        self.assertEqual([told(one) for one in got], plain_run(book, course_of(*rows)))
        return got

    def test_a_hand_sets_its_thing_ahead_of_the_moment(self):
        got = self.assert_ends([(NO, (("lamp", "on"),), (), ())], "on on")
        self.assertEqual(got[0].doings, ((0, "heat", "on", ("warm",)),))

    def test_what_is_held_stays_so_till_it_is_let_go(self):
        hand = (NO, (("lamp", "on"),), (), ())
        self.assert_ends([hand, DRY, DRY, WET, DRY], *["on on"] * 5)
        self.assert_ends([hand, DRY, (NO, (), ("lamp",), ()), WET], "on on", "on on", "on off", "on on")
        # A hand holds also where it sets a thing to what it is.
        self.assert_ends([(YES, (("lamp", "off"),), (), ()), WET, (YES, (), ("lamp",), ())], "off off", "off off", "on on")

    def test_rules_set_neither_what_is_held_nor_what_fails(self):
        self.assert_ends([(YES, (("heat", "off"),), (), ()), WET], "off on", "off on")
        self.assert_ends([(YES, (), (), ("heat",)), WET], "off on", "on on")
        self.assert_ends([(YES, (), (), ("heat", "lamp")), (YES, (), (), ("lamp",)), WET], "off off", "off off", "on on")
        self.assert_ends([(YES, (("heat", "off"),), (), ("lamp",)), WET], "off off", "off on")

    def test_a_hand_on_a_thing_that_fails(self):
        # It isn't set, but held from then on.
        self.assert_ends([(NO, (("lamp", "on"),), (), ("lamp",)), WET, WET, (YES, (), ("lamp",), ())], "off off", "off off", "off off", "on on")
        self.assert_ends([(NO, (("heat", "on"), ("lamp", "on")), (), ("lamp",)), WET], "on off", "on off")

    def test_a_hand_on_a_thing_that_is_held(self):
        self.assert_ends([(NO, (("lamp", "on"),), (), ()), (YES, (("lamp", "off"),), (), ()), WET, (YES, (), ("lamp",), ())],
                         "on on", "on off", "on off", "on on")
        self.assert_ends([(NO, (("lamp", "on"),), (), ()), (NO, (("lamp", "off"),), (), ("lamp",)), DRY, (NO, (), ("lamp",), ())],
                         "on on", "on on", "on on", "on off")

    def test_a_thing_let_go_that_is_not_held(self):
        self.assert_ends([(YES, (), ("heat", "lamp"), ()), (NO, (), ("lamp",), ())], "on on", "on off")

    def test_a_thing_let_go_in_the_row_of_a_hand_on_another(self):
        self.assert_ends([(NO, (("lamp", "on"),), (), ()), (NO, (("heat", "off"),), ("lamp",), ()), WET],
                         "on on", "off off", "off on")

    def test_a_thing_let_go_that_fails(self):
        self.assert_ends([(NO, (("lamp", "on"),), (), ()), (NO, (), ("lamp",), ("lamp",)), DRY], "on on", "on on", "on off")

    def test_clashes_over_what_is_held(self):
        book = BOOK.with_rule(book_of(HOUSE, "x 0 0 | rain is yes | - | lamp off").named("x"))
        got = self.assert_ends([(YES, (("lamp", "on"),), (), ())], "on on", book=book)
        self.assertEqual(got[0].clashes, (("lamp", ("wet", "x")),))

    def test_counts_go_by_what_is_held(self):
        book = book_of(HOUSE, "late 0 1 | lamp is on | - | heat on")
        self.assert_ends([(NO, (("lamp", "on"),), (), ()), DRY, DRY], "off on", "on on", "on on", book=book)


class ChangesTest(unittest.TestCase):
    NIGHT = book_of(HOUSE, "night 0 0 | hour 0 to 2 | - | heat off, lamp off")

    def test_none_of_them(self):
        course = course_of(WET, DRY, WET)
        same = run(BOOK, course)
        for got in (run(BOOK, course, None), run(BOOK, course, ()), run(BOOK, course, changes=None), run(BOOK, course, changes=())):
            self.assertEqual(got, same)
        self.assertEqual(run(BOOK, Course(HOUSE), ()), [])

    def test_one(self):
        course = course_of(WET, WET, DRY)
        for at, ends in ((0, ["off off"] * 3), (1, ["on on", "off off", "off off"]), (2, ["on on", "on on", "off off"])):
            got = run(BOOK, course, ((at, self.NIGHT),))
            self.assertEqual([" ".join(row) for row in ends_of(got)], ends)
            self.assertEqual(got[:at], run(BOOK, course)[:at])
            self.assertEqual([told(one) for one in got], plain_run(BOOK, course, ((at, self.NIGHT),)))
        self.assertEqual(run(BOOK, course, changes=((1, self.NIGHT),)), run(BOOK, course, ((1, self.NIGHT),)))

    def test_several(self):
        course = course_of(*[WET] * 4)
        got = run(BOOK, course, ((0, self.NIGHT), (1, BOOK), (3, Book(HOUSE))))
        self.assertEqual(ends_of(got), [("off", "off"), ("on", "on"), ("on", "on"), ("on", "on")])
        self.assertEqual([len(one.standing[2]) for one in got], [1, 3, 3, 0])
        got = run(BOOK, course, ((0, Book(HOUSE)), (1, Book(HOUSE)), (2, BOOK), (3, self.NIGHT)))
        self.assertEqual(ends_of(got), [("off", "off"), ("off", "off"), ("on", "on"), ("off", "off")])

    def test_what_is_held_stays_so(self):
        course = course_of((NO, (("lamp", "on"),), (), ()), DRY, DRY, (NO, (), ("lamp",), ()))
        got = run(BOOK, course, ((1, self.NIGHT),))
        self.assertEqual(ends_of(got), [("on", "on"), ("off", "on"), ("off", "on"), ("off", "off")])

    def test_a_hand_in_the_row_of_a_change(self):
        got = run(BOOK, course_of(WET, (YES, (("heat", "on"),), (), ())), ((1, self.NIGHT),))
        self.assertEqual(ends_of(got), [("on", "on"), ("on", "off")])

    def test_a_rule_keeps_its_count_where_both_books_have_it_alike(self):
        late = book_of(HOUSE, "a 0 2 | rain is yes | - | lamp on", "b 0 0 | hour 0 | - | heat off")
        course = course_of(WET, WET, WET, WET, WET)
        dark, lit = ("off", "off"), ("off", "on")
        self.assertEqual(ends_of(run(late, course)), [dark, dark, lit, lit, lit])
        for other in (late, late.without("b"), book_of(HOUSE, "a 0 2 | rain is yes | - | lamp on", "aa 0 1 | hour 0 | - | heat off"),
                      read_book(str(late))):
            for at in range(5):
                self.assertEqual(ends_of(run(late, course, ((at, other),))), [dark, dark, lit, lit, lit])
                self.assertEqual(run(late, course, ((at, other),))[at].standing[2][0], min(at + 1, 2))

    def test_else_it_is_nought(self):
        late = book_of(HOUSE, "a 0 2 | rain is yes | - | lamp on")
        course = course_of(*[WET] * 6)
        dark, lit = ("off", "off"), ("off", "on")
        for text in ("a 1 2 | rain is yes | - | lamp on", "a 0 2 | not rain is no | - | lamp on", "b 0 2 | rain is yes | - | lamp on",
                     "a 0 2 | rain is yes | rain is no | lamp on", "a 0 2 | rain is yes | - | heat off, lamp on"):
            for at in (1, 2):
                got = run(late, course, ((at, book_of(HOUSE, text)),))
                self.assertEqual(ends_of(got), [dark] * (at + 2) + [lit] * (4 - at), text)
                self.assertEqual([one.standing[2] for one in got], [(number + 1,) for number in range(at)]
                                 + [(min(number + 1, 2),) for number in range(6 - at)])
        sooner = book_of(HOUSE, "a 0 3 | rain is yes | - | lamp on")
        self.assertEqual(ends_of(run(late, course, ((1, sooner),))), [dark] * 4 + [lit] * 2)

    def test_a_rule_dropped_and_taken_again_begins_anew(self):
        late = book_of(HOUSE, "a 0 2 | rain is yes | - | lamp on")
        got = run(late, course_of(*[WET] * 6), ((2, Book(HOUSE)), (3, late)))
        self.assertEqual([one.standing[2] for one in got], [(1,), (2,), (), (1,), (2,), (2,)])


class RefusalTest(unittest.TestCase):
    COURSE = course_of(WET, DRY, WET)
    ELSE = Book(OTHER_HOUSE)

    def assert_pair(self, question, *parts, **more):
        with self.assertRaises(NoPair) as caught:
            question(*parts, **more)
        self.assertIs(type(caught.exception), NoPair)
        self.assertIsInstance(caught.exception, HearthError)

    def assert_change(self, number, question, *parts, **more):
        with self.assertRaises(NoChange) as caught:
            question(*parts, **more)
        self.assertIs(type(caught.exception), NoChange)
        self.assertIsInstance(caught.exception, HearthError)
        self.assertEqual((caught.exception.number, type(caught.exception.number)), (number, type(number)))

    def test_another_house(self):
        for house in (OTHER_HOUSE, BARE, House((("rain", ("yes", "no")),), HOUSE.inner, 3), House(HOUSE.outer, HOUSE.inner[1:], 3)):
            self.assert_pair(run, BOOK, Course(house))
            self.assert_pair(run, Book(house), self.COURSE)
            self.assert_pair(moved, BOOK, BOOK, Course(house))
            self.assert_pair(moved, Book(house), BOOK, self.COURSE)
        self.assertEqual(run(Book(House(HOUSE.outer, HOUSE.inner, 3)), Course(HOUSE)), [])

    def test_no_pair_ahead_of_no_change(self):
        for changes in (7, [], ((9, BOOK),), ((0, None),)):
            self.assert_pair(run, BOOK, Course(OTHER_HOUSE), changes)
        self.assert_pair(run, self.ELSE, self.COURSE, ((0, BOOK), (0, BOOK)))
        for at in (-1, 3, True, None):
            self.assert_pair(moved, BOOK, BOOK, Course(OTHER_HOUSE), at)
        self.assert_pair(moved, BOOK, None, Course(OTHER_HOUSE))
        # The other book is of the course's house, the one that runs isn't.
        self.assert_pair(moved, self.ELSE, BOOK, self.COURSE)

    def test_what_is_no_tuple(self):
        for changes in [[], [(0, BOOK)], {}, {0: BOOK}, 0, "", BOOK, {1}] + odd_things():
            if changes is not None and not isinstance(changes, tuple):
                self.assert_change(None, run, BOOK, self.COURSE, changes)
                self.assert_change(None, run, BOOK, self.COURSE, changes=changes)

    def wrong_changes(self):
        numbers = [3, 4, -1, 999, True, False, None, "0", "", (0,), 10 ** 30, Stubborn(), AlikeToAll(), BOOK]
        books = [None, self.ELSE, Book(BARE), HOUSE, BOOK.rules, str(BOOK), Book, (BOOK,), Stubborn(), AlikeToAll(), self.COURSE]
        rows = [(), (1,), (1, BOOK, BOOK), (1, BOOK, None), [1, BOOK], {1: BOOK}, (BOOK, 1), 1, BOOK]
        return [(number, BOOK) for number in numbers] + [(1, book) for book in books] + rows + odd_things()

    def test_what_is_no_change(self):
        for change in self.wrong_changes():
            self.assert_change(0, run, BOOK, self.COURSE, (change,))
            self.assert_change(0, run, BOOK, self.COURSE, (change, (0, BOOK)))
            self.assert_change(1, run, BOOK, self.COURSE, ((0, BOOK), change))
            self.assert_change(1, run, BOOK, self.COURSE, ((0, BOOK), change, change))
            self.assert_change(2, run, BOOK, self.COURSE, ((0, BOOK), (1, BOOK), change))

    def test_the_same_again_and_a_fall(self):
        self.assert_change(1, run, BOOK, self.COURSE, ((0, BOOK), (0, BOOK)))
        self.assert_change(1, run, BOOK, self.COURSE, ((1, BOOK), (0, BOOK), (2, BOOK)))
        self.assert_change(2, run, BOOK, self.COURSE, ((0, BOOK), (2, BOOK), (1, BOOK)))
        self.assert_change(3, run, BOOK, self.COURSE, ((0, BOOK), (1, BOOK), (2, BOOK), (2, BOOK)))
        self.assert_change(3, run, BOOK, self.COURSE, ((0, BOOK), (1, BOOK), (2, BOOK), (3, BOOK)))

    def test_a_course_without_rows_has_no_number(self):
        self.assert_change(0, run, BOOK, Course(HOUSE), ((0, BOOK),))
        self.assert_change(0, moved, BOOK, BOOK, Course(HOUSE))

    def test_moved(self):
        for at in [3, -1, 999, True, False, None, "0", (0,), 10 ** 30] + odd_things():
            self.assert_change(0, moved, BOOK, BOOK, self.COURSE, at)
            self.assert_change(0, moved, BOOK, BOOK, self.COURSE, at=at)
        for other in [self.ELSE, Book(BARE), HOUSE, str(BOOK), Book] + odd_things():
            self.assert_change(0, moved, BOOK, other, self.COURSE)
            self.assert_change(0, moved, BOOK, other, self.COURSE, 2)


class MovedTest(unittest.TestCase):
    BLANK = Book(HOUSE)

    def test_at_each_row(self):
        course = course_of(WET, DRY, WET)
        self.assertEqual(ends_of(run(BOOK, course)), [("on", "on"), ("on", "off"), ("on", "on")])
        every = [(0, "heat", "on", "off"), (0, "lamp", "on", "off"), (1, "heat", "on", "off"), (2, "heat", "on", "off"),
                 (2, "lamp", "on", "off")]
        self.assertEqual(moved(BOOK, self.BLANK, course), every)
        self.assertEqual(moved(BOOK, self.BLANK, course, 0), every)
        self.assertEqual(moved(BOOK, self.BLANK, course, at=0), every)
        self.assertEqual(moved(BOOK, self.BLANK, course, 1), [(1, "lamp", "off", "on")])
        self.assertEqual(moved(BOOK, self.BLANK, course, 2), [(2, "lamp", "on", "off")])
        self.assertEqual(moved(self.BLANK, BOOK, course, 2), [(2, "heat", "off", "on"), (2, "lamp", "off", "on")])

    def test_a_new_list_of_rows(self):
        got = moved(BOOK, self.BLANK, course_of(WET))
        self.assertIs(type(got), list)
        self.assertEqual([type(row) for row in got], [tuple, tuple])
        got.clear()
        self.assertEqual(len(moved(BOOK, self.BLANK, course_of(WET))), 2)

    def test_a_book_alike(self):
        course = course_of(WET, DRY, WET, (YES, (("lamp", "off"),), (), ()))
        for at in range(4):
            self.assertEqual(moved(BOOK, read_book(str(BOOK)), course, at), [])

    def test_with_hands(self):
        course = course_of((NO, (("lamp", "on"),), (), ()), DRY, (NO, (), ("lamp",), ()))
        self.assertEqual(moved(BOOK, self.BLANK, course, 1), [(2, "lamp", "off", "on")])
        self.assertEqual(moved(BOOK, self.BLANK, course), [(0, "heat", "on", "off"), (1, "heat", "on", "off"), (2, "heat", "on", "off"),
                                                           (2, "lamp", "off", "on")])

    def test_counts_as_for_a_change(self):
        late = book_of(HOUSE, "a 0 2 | rain is yes | - | lamp on")
        other = book_of(HOUSE, "a 1 2 | rain is yes | - | lamp on")
        self.assertEqual(moved(late, other, course_of(*[WET] * 5), 1), [(2, "lamp", "on", "off")])
        self.assertEqual(moved(late, other, course_of(*[WET] * 5)), [])


class ByChanceTest(unittest.TestCase):
    def some_changes(self, chance, book, course):
        rows = sorted(chance.sample(range(len(course)), min(len(course), chance.randrange(3))))
        changes = []
        for number in rows:
            if len(book) and chance.randrange(2):
                book = book.without(chance.choice(book.rules).name)
            else:
                names = [name for name in "uvw" if name not in [rule.name for rule in book.rules]]
                book = book.with_rule(some_rule(chance, book.house, names[0])) if len(book) < 6 and names else Book(book.house)
            changes.append((number, book))
        return tuple(changes)

    def test_as_another_reading_has_it(self):
        chance = random.Random(61)
        changed = 0
        for turn in range(500):
            house = some_house(chance)
            book = some_book(chance, house)
            course = some_course(chance, house, chance.randrange(9))
            self.assertEqual([told(one) for one in run(book, course)], plain_run(book, course))
            changes = self.some_changes(chance, book, course)
            got = run(book, course, changes)
            self.assertEqual([told(one) for one in got], plain_run(book, course, changes))
            first = changes[0][0] if changes else len(course)
            self.assertEqual(got[:first], run(book, course)[:first])
            for number, other in changes[:1]:
                rows = moved(book, other, course, number)
                names = [name for name, values in house.inner]
                both = list(zip(ends_of(run(book, course)), ends_of(run(book, course, changes[:1]))))
                self.assertEqual(rows, [(at, name, one[place], two[place]) for at, (one, two) in enumerate(both)
                                        for place, name in enumerate(names) if one[place] != two[place]])
                changed += rows != []
        self.assertGreater(changed, 20)

    def test_without_hands_it_is_moment_by_moment(self):
        chance = random.Random(62)
        for turn in range(40):
            house = some_house(chance)
            book = some_book(chance, house)
            outers = tuple(chance.choice(all_outer(house)) for many in range(6))
            standing, moments = first_standing(book), []
            for outer in outers:
                moments.append(moment(book, standing, outer))
                standing = moments[-1].standing
            self.assertEqual(run(book, plain(house, outers)), moments)


if __name__ == "__main__":
    unittest.main()
