import copy
import unittest

from hearthrules.books import Book
from hearthrules.courses import Course, is_course_row, plain
from hearthrules.errors import HearthError, NoCourse
from hearthrules.houses import House
from oddities import AlikeToAll, Stubborn, odd_things

HOUSE = House((("door", ("shut", "wide")), ("rain", ("no", "yes"))),
              (("fan", ("off", "low", "high")), ("heat", ("off", "on")), ("lamp", ("off", "on"))))
BARE = House((), (("lamp", ("off", "on")),))
DRY = ("shut", "no")
PLAIN = (DRY, (), (), ())
FULL = (("wide", "yes"), (("fan", "low"), ("lamp", "on")), ("heat",), ("fan", "heat", "lamp"))


class Case(unittest.TestCase):
    def assert_refused(self, number, call, *parts, **more):
        with self.assertRaises(NoCourse) as caught:
            call(*parts, **more)
        self.assertEqual(caught.exception.number, number)
        self.assertIn(type(caught.exception.number), (int, type(None)))
        self.assertIsInstance(caught.exception, HearthError)

    def assert_wrong_row(self, row, house=HOUSE):
        self.assertIs(is_course_row(house, row), False)
        good = PLAIN if house == HOUSE else ((), (), (), ())
        for number in (0, 1, 5):
            self.assert_refused(number, Course, house, (good,) * number + (row,))
            self.assert_refused(number, Course, house, (good,) * number + (row, good, None))


class CourseTest(Case):
    def test_no_rows(self):
        for course in (Course(HOUSE), Course(HOUSE, None), Course(HOUSE, ()), Course(HOUSE, rows=None), Course(HOUSE, rows=())):
            self.assertEqual((course.house, course.rows, len(course), bool(course)), (HOUSE, (), 0, False))
            self.assertIsInstance(course.rows, tuple)
            self.assertEqual(repr(course), "Course(0)")

    def test_values(self):
        rows = (PLAIN, FULL, PLAIN)
        for course in (Course(HOUSE, rows), Course(HOUSE, rows=rows)):
            self.assertEqual((course.house, course.rows, len(course), bool(course)), (HOUSE, rows, 3, True))
            self.assertEqual(repr(course), "Course(3)")

    def test_999_rows_and_1000(self):
        self.assertEqual(len(Course(HOUSE, (PLAIN,) * 999)), 999)
        self.assertEqual(repr(Course(HOUSE, (FULL,) * 999)), "Course(999)")
        self.assert_refused(None, Course, HOUSE, (PLAIN,) * 1000)
        self.assert_refused(None, Course, HOUSE, (None,) * 1000)
        self.assert_refused(998, Course, HOUSE, (PLAIN,) * 998 + (None,))

    def test_rows_that_stand(self):
        for row in (PLAIN, FULL, (DRY, (("fan", "off"),), ("heat", "lamp"), ("fan",)), (DRY, (), ("lamp",), ("lamp",)),
                    (DRY, (("fan", "off"), ("heat", "on"), ("lamp", "off")), (), ("fan", "heat", "lamp")),
                    (DRY, (), ("fan", "heat", "lamp"), ())):
            self.assertIs(is_course_row(HOUSE, row), True)
            self.assertEqual(Course(HOUSE, (row, row)).rows, (row, row))
        self.assertEqual(len(Course(BARE, (((), (), (), ()), ((), (("lamp", "on"),), (), ())))), 2)

    def test_alike_where_house_and_rows_are(self):
        one = Course(HOUSE, (PLAIN, FULL))
        self.assertIs(one == Course(House(HOUSE.outer, HOUSE.inner, 4), (PLAIN, FULL)), True)
        self.assertIs(one != Course(HOUSE, (PLAIN, FULL)), False)
        for other in (Course(HOUSE), Course(HOUSE, (FULL, PLAIN)), Course(HOUSE, (PLAIN,)), Course(HOUSE, (PLAIN, FULL, FULL)),
                      Course(House(HOUSE.outer, HOUSE.inner, 3), (PLAIN, FULL)),
                      Course(HOUSE, (PLAIN, FULL[:3] + ((),)))):
            self.assertIs(one == other, False)
            self.assertIs(one != other, True)
        self.assertIs(Course(HOUSE) == Course(BARE), False)

    def test_a_course_and_any_other_thing(self):
        for thing in odd_things() + [(), (PLAIN,), (HOUSE, (PLAIN,)), "Course(1)", HOUSE, Course, 1, AlikeToAll(), Stubborn()]:
            self.assertIs(Course(HOUSE, (PLAIN,)) == thing, False)
            self.assertIs(Course(HOUSE, (PLAIN,)) != thing, True)


class RefusalTest(Case):
    def test_what_is_no_house(self):
        for thing in odd_things() + [(), Book(HOUSE), House, str(HOUSE), Course(HOUSE)]:
            self.assert_refused(None, Course, thing)
            self.assert_refused(None, Course, thing, (PLAIN,))
            self.assert_refused(None, Course, thing, (None,))

    def test_what_is_no_tuple(self):
        for thing in [thing for thing in odd_things() if thing is not None and not isinstance(thing, tuple)] + [
                [], [PLAIN], {}, 0, "", Course(HOUSE), {PLAIN}, {PLAIN: PLAIN}]:
            self.assert_refused(None, Course, HOUSE, thing)

    def test_what_is_no_row(self):
        for row in odd_things() + [list(PLAIN), PLAIN[:3], PLAIN + ((),), (DRY,), DRY, (), "abcd", (PLAIN,), 0]:
            self.assert_wrong_row(row)

    def test_outer_values(self):
        for outer in [("shut",), ("shut", "no", "no"), (), ("no", "shut"), ("shut", "shut"), ["shut", "no"], ("shut", "off"), None,
                      "shut", ("shut", None), ("shut", True), (("door", "shut"), ("rain", "no")), (Stubborn(), "no"),
                      (AlikeToAll(), AlikeToAll()), ("Shut", "no")] + odd_things():
            self.assert_wrong_row((outer, (), (), ()))
        for outer in (("no",), [], None, ""):
            self.assert_wrong_row((outer, (), (), ()), BARE)

    def test_hands(self):
        for hands in [(("lamp", "on"), ("fan", "low")), (("lamp", "on"), ("lamp", "on")), (("lamp", "off"), ("lamp", "on")),
                      (("rain", "no"),), (("fan", "on"),), (("lamp", "low"),), (("zoo", "on"),), (("lamp",),), ("lamp", "on"),
                      (["lamp", "on"],), [("lamp", "on")], (("lamp", "on", "on"),), {"lamp": "on"}, None, [], "", 0,
                      (("lamp", None),), ((None, "on"),), (("lamp", Stubborn()),), ((AlikeToAll(), "on"),),
                      (("fan", "low"), ("heat", "on"), ("lamp", "on"), ("rain", "no")), (("door", "shut"), ("lamp", "on"))
                      ] + odd_things():
            self.assert_wrong_row((DRY, hands, (), ()))

    def test_freed_and_failing(self):
        odd = [thing for thing in odd_things() if not (isinstance(thing, tuple) and thing[0].__class__ is str and len(thing) == 1)]
        for names in [("lamp", "fan"), ("lamp", "lamp"), ("rain",), ("zoo",), ["lamp"], "lamp", None, [], "", {}, {"lamp"}, 0,
                      (("lamp", "on"),), ("lamp", None), ("fan", "rain"), ("fan", "heat", "heat"), ("on",)] + odd:
            self.assert_wrong_row((DRY, (), names, ()))
            self.assert_wrong_row((DRY, (), (), names))

    def test_a_thing_both_freed_and_in_hands(self):
        self.assert_wrong_row((DRY, (("lamp", "on"),), ("lamp",), ()))
        self.assert_wrong_row((DRY, (("fan", "low"), ("lamp", "on")), ("heat", "lamp"), ()))
        self.assert_wrong_row((DRY, (("fan", "low"), ("lamp", "on")), ("fan", "heat"), ("fan",)))

    def test_the_first_row_that_is_not_so_is_told(self):
        self.assert_refused(1, Course, HOUSE, (PLAIN, None, PLAIN, None))
        self.assert_refused(0, Course, HOUSE, (None, None))
        self.assert_refused(2, Course, HOUSE, (FULL, PLAIN, FULL[::-1], PLAIN))
        self.assert_refused(0, Course, BARE, (PLAIN,))

    def test_what_is_handed_in_is_not_changed(self):
        for rows in ([PLAIN], [list(PLAIN)]):
            kept = copy.deepcopy(rows)
            self.assert_refused(None, Course, HOUSE, rows)
            self.assertEqual(rows, kept)


class PlainTest(Case):
    def test_the_rest_is_empty(self):
        wet = ("wide", "yes")
        self.assertEqual(plain(HOUSE, (DRY, wet, DRY)), Course(HOUSE, (PLAIN, (wet, (), (), ()), PLAIN)))
        self.assertEqual(plain(HOUSE, ()), Course(HOUSE))
        self.assertEqual(plain(BARE, ((), ())).rows, (((), (), (), ()),) * 2)
        self.assertIsInstance(plain(HOUSE, (DRY,)), Course)
        self.assertEqual(len(plain(HOUSE, (DRY,) * 999)), 999)

    def test_outers_that_are_no_tuple(self):
        for thing in [thing for thing in odd_things() if not isinstance(thing, tuple)] + [[], [DRY], {DRY}, {DRY: 1}, "", 0, None]:
            self.assert_refused(None, plain, HOUSE, thing)
            self.assert_refused(None, plain, None, thing)

    def test_values_that_are_none(self):
        for outer in [("shut",), ("shut", "no", "no"), ["shut", "no"], ("no", "shut"), None, PLAIN, (), Stubborn()] + odd_things():
            self.assert_refused(0, plain, HOUSE, (outer,))
            self.assert_refused(2, plain, HOUSE, (DRY, DRY, outer, DRY, outer))
        self.assert_refused(0, plain, HOUSE, DRY)

    def test_what_is_no_house_and_too_many(self):
        for thing in odd_things() + [Book(HOUSE)]:
            self.assert_refused(None, plain, thing, (DRY,))
        self.assert_refused(None, plain, HOUSE, (DRY,) * 1000)


if __name__ == "__main__":
    unittest.main()
