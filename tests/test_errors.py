import unittest

from hearthrules import errors
from hearthrules.errors import (
    HearthError, LostError, NoBook, NoChange, NoCourse, NoHouse, NoName, NoNumber, NoOuter, NoPair,
    NoRow, NoRule, NoSaying, NoStanding, NoText, NoThing, TooMany)
from oddities import odd_things

FIELDS = (
    (NoHouse, "part"), (NoSaying, "at"), (NoRule, "part"), (NoBook, "rule"), (NoText, "row"),
    (NoCourse, "number"), (NoChange, "number"), (NoThing, "name"), (NoName, "name"))
BARE = (NoStanding, NoOuter, NoPair, NoNumber, NoRow)
LOST = (NoThing, NoName)
HEARTH = tuple(kind for kind, field in FIELDS if kind not in LOST) + BARE + (TooMany,)


class BasesTest(unittest.TestCase):
    def test_the_two_bases_stand_under_pythons_errors(self):
        self.assertEqual(HearthError.__bases__, (ValueError,))
        self.assertEqual(LostError.__bases__, (LookupError,))

    def test_each_class_stands_under_its_base_alone(self):
        for kind in HEARTH:
            self.assertEqual(kind.__bases__, (HearthError,), kind)
        for kind in LOST:
            self.assertEqual(kind.__bases__, (LostError,), kind)

    def test_no_class_stands_under_another_one(self):
        kinds = HEARTH + LOST
        self.assertEqual(len(kinds), 15)
        for kind in kinds:
            self.assertEqual([other for other in kinds if issubclass(kind, other)], [kind])

    def test_each_is_defined_in_this_file_under_its_name(self):
        for kind in HEARTH + LOST + (HearthError, LostError):
            self.assertEqual(kind.__module__, "hearthrules.errors")
            self.assertIs(getattr(errors, kind.__name__), kind)


class FieldsTest(unittest.TestCase):
    def test_the_field_is_set_on_each_object(self):
        for kind, field in FIELDS:
            for thing in ["outer", 3, None] + odd_things():
                self.assertEqual(list(vars(kind(thing))), [field])
                self.assertIs(getattr(kind(thing), field), thing)

    def test_two_objects_of_one_class_have_fields_of_their_own(self):
        for kind, field in FIELDS:
            one, other = kind("one"), kind("other")
            self.assertEqual((getattr(one, field), getattr(other, field)), ("one", "other"))

    def test_too_many_has_both_its_fields(self):
        error = TooMany(401, 400)
        self.assertEqual((error.many, error.most), (401, 400))

    def test_the_other_classes_can_be_raised_with_words(self):
        for kind in BARE + (HearthError, LostError):
            with self.assertRaises(kind) as caught:
                raise kind("why")
            self.assertEqual(str(caught.exception), "why")

    def test_each_can_be_shown_whatever_its_field_is(self):
        for kind, field in FIELDS:
            for thing in odd_things():
                self.assertNotEqual(str(kind(thing)), "")
                self.assertIn(kind.__name__, repr(kind(thing)))


if __name__ == "__main__":
    unittest.main()
