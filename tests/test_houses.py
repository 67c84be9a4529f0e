import copy
import unittest
from itertools import product

from hearthrules.errors import HearthError, LostError, NoHouse, NoThing
from hearthrules.houses import House, all_outer, are_inner_names, first_values, gives_each, has_value
from oddities import AlikeToAll, Stubborn, odd_things

TWO = ("on", "off")
THREE = ("low", "mid", "high")
FOUR = ("a", "b", "c", "d")
LAMP = (("lamp", TWO),)
OUTER = (("door", ("shut", "wide")), ("rain", ("no", "yes")))
INNER = (("fan", THREE), ("heat", ("off", "on")), ("lamp", TWO))


def things(*rows):
    """Things named by letters, with these values."""
    return tuple((name, values) for name, values in zip("abcdefgh", rows))


class Case(unittest.TestCase):
    def assert_refused(self, part, *parts, **more):
        with self.assertRaises(NoHouse) as caught:
            House(*parts, **more)
        self.assertEqual(caught.exception.part, part)
        self.assertIsInstance(caught.exception, HearthError)
        self.assertNotIsInstance(caught.exception, LookupError)


class HouseTest(Case):
    def test_values(self):
        house = House(OUTER, INNER, 6)
        self.assertEqual((house.outer, house.inner, house.hours), (OUTER, INNER, 6))
        self.assertIsInstance(house.outer, tuple)
        self.assertIsInstance(house.inner, tuple)

    def test_hours_by_place_by_keyword_and_left_out(self):
        self.assertEqual(House((), LAMP).hours, 4)
        for hours in range(1, 7):
            self.assertEqual(House((), LAMP, hours).hours, hours)
            self.assertEqual(House((), LAMP, hours=hours).hours, hours)

    def test_none_to_three_outer_things(self):
        for many in range(4):
            outer = things(*[TWO] * many)
            self.assertEqual(House(outer, LAMP).outer, outer)

    def test_one_to_four_inner_things(self):
        for many in range(1, 5):
            inner = things(*[FOUR] * many)
            self.assertEqual(House((), inner).inner, inner)

    def test_two_to_four_values(self):
        for values in (TWO, THREE, FOUR):
            self.assertEqual(House(things(values), LAMP).values_of("a"), values)
            self.assertEqual(House((), things(values)).values_of("a"), values)

    def test_just_twelve_ways_of_the_outer_values(self):
        for rows in ((THREE, FOUR), (FOUR, THREE), (TWO, TWO, THREE), (TWO, THREE, TWO), (THREE, TWO, TWO)):
            self.assertEqual(len(all_outer(House(things(*rows), LAMP))), 12)

    def test_names_of_one_and_of_eight_letters(self):
        house = House((("a", ("b", "abcdefgh")),), (("zzzzzzzz", ("z", "zz")),))
        self.assertEqual(house.values_of("zzzzzzzz"), ("z", "zz"))
        self.assertEqual(house.values_of("a"), ("b", "abcdefgh"))

    def test_values_may_stand_in_any_order_and_be_names_of_things(self):
        house = House((("lamp", ("on", "lamp", "fan")),), (("room", ("lamp", "on")),))
        self.assertEqual(house.values_of("lamp"), ("on", "lamp", "fan"))

    def test_inner_ways_are_not_bounded(self):
        self.assertEqual(len(House((), things(FOUR, FOUR, FOUR, FOUR))), 4)

    def test_an_outer_name_may_be_behind_an_inner_one(self):
        self.assertEqual(len(House((("zoo", TWO),), (("ant", TWO),))), 2)


class RefusalTest(Case):
    def wrong_in_either_row(self):
        """What is wrong as a row of things, be they outer or inner ones."""
        return [
            [], [("lamp", TWO)], (["lamp", TWO],), (("lamp", ["on", "off"]),), (("lamp",),), ((),), ("lamp",),
            (("lamp", TWO, TWO),), (("lamp", "on", "off"),), (TWO,), (("lamp", "on"),), (("lamp", {"on", "off"}),),
            ("lamp", TWO), {"lamp": TWO}, "lamp", None, 0, 1, True,
            (("lamp", TWO), ("fan", TWO)), (("a", TWO), ("c", TWO), ("b", TWO)),
            (("lamp", TWO), ("lamp", TWO)), (("lamp", TWO), ("lamp", THREE)), (("a", TWO), ("lamp", TWO), ("a", TWO)),
            (("lamp", ("on", "on")),), (("lamp", ("on", "off", "on")),), (("lamp", ("a", "b", "c", "c")),),
            (("lamp", ()),), (("lamp", ("on",)),), (("lamp", ("a", "b", "c", "d", "e")),),
            (("lamp", TWO), None), (None, ("lamp", TWO)), (("lamp", TWO), ()),
        ]

    def test_wrong_rows_of_outer_things(self):
        for row in self.wrong_in_either_row() + odd_things():
            self.assert_refused("outer", row, (("zoo", TWO),))

    def test_wrong_rows_of_inner_things(self):
        for row in self.wrong_in_either_row() + odd_things():
            self.assert_refused("inner", (("zoo", TWO),), row)

    def test_too_many_things_and_too_few(self):
        self.assert_refused("outer", things(TWO, TWO, TWO, TWO), LAMP)
        self.assert_refused("inner", (), ())
        self.assert_refused("inner", (), things(TWO, TWO, TWO, TWO, TWO))

    def test_more_than_twelve_ways(self):
        for rows in ((FOUR, FOUR), (TWO, TWO, FOUR), (THREE, THREE, TWO), (FOUR, FOUR, FOUR)):
            self.assert_refused("outer", things(*rows), LAMP)

    def test_what_is_no_name(self):
        texts = ["", "abcdefghi", "is", "hour", "to", "not", "and", "or", "Lamp", "lamp ", " lamp", "la-mp", "lamp1",
                 "la\nmp", "lamp\n", "_", "a b", "~"]
        for thing in texts + odd_things():
            self.assert_refused("outer", ((thing, TWO),), LAMP)
            self.assert_refused("outer", (("rain", ("yes", thing)),), LAMP)
            self.assert_refused("outer", (("rain", (thing, "yes")),), LAMP)
            self.assert_refused("inner", (), ((thing, TWO),))
            self.assert_refused("inner", (), (("lamp", (thing, "on", "off")),))
            self.assert_refused("inner", (), (("lamp", ("on", "off", thing)),))

    def test_values_of_any_kind(self):
        for thing in odd_things() + ["on", ["on", "off"], 2]:
            self.assert_refused("outer", (("rain", thing),), LAMP)
            self.assert_refused("inner", (), (("lamp", thing),))

    def test_a_name_in_both_rows_counts_for_inner(self):
        self.assert_refused("inner", LAMP, LAMP)
        self.assert_refused("inner", things(TWO, TWO), (("b", THREE), ("c", TWO)))
        self.assert_refused("inner", (("c", TWO),), things(TWO, TWO, TWO))

    def test_hours(self):
        for hours in odd_things() + [0, 7, -1, 100, True, False, None, "4", "", (4,), [4], b"4"]:
            self.assert_refused("hours", (), LAMP, hours)
            self.assert_refused("hours", (), LAMP, hours=hours)

    def test_the_first_part_that_is_not_so_is_told(self):
        self.assert_refused("outer", None, None, None)
        self.assert_refused("outer", [], (), 0)
        self.assert_refused("outer", [], LAMP, 0)
        self.assert_refused("outer", [], (), 4)
        self.assert_refused("outer", things(FOUR, FOUR), things(TWO), 7)
        self.assert_refused("inner", (), (), 0)
        self.assert_refused("inner", LAMP, LAMP, True)
        self.assert_refused("outer", LAMP + LAMP, LAMP)

    def test_what_is_handed_in_is_not_changed(self):
        for row in (["lamp", TWO], [("lamp", ["on", "off"])], {"lamp": ["on", "off"]}):
            kept = copy.deepcopy(row)
            self.assert_refused("outer", row, LAMP)
            self.assert_refused("inner", (), row)
            self.assertEqual(row, kept)


class AlikeTest(Case):
    def test_alike_where_all_three_are(self):
        one = House(OUTER, INNER, 3)
        other = House(tuple(list(OUTER)), tuple(list(INNER)), hours=3)
        self.assertIs(one == other, True)
        self.assertIs(one != other, False)
        self.assertIn(one, [None, other])
        self.assertEqual([House((), LAMP, 1), one].index(other), 1)
        self.assertIs(House((), LAMP) == House((), LAMP, 4), True)

    def test_unlike_where_one_thing_differs(self):
        house = House(OUTER, INNER, 3)
        others = [
            House(OUTER, INNER, 2), House(OUTER, INNER), House(OUTER[:1], INNER, 3), House((), INNER, 3),
            House(OUTER, INNER[:2], 3), House(OUTER, INNER[1:], 3),
            House((OUTER[0], ("rain", ("yes", "no"))), INNER, 3),
            House((OUTER[0], ("rainy", ("no", "yes"))), INNER, 3),
            House(OUTER, INNER[:2] + (("lamp", ("off", "on")),), 3),
            House(OUTER, INNER[:2] + (("light", TWO),), 3),
            House(OUTER, INNER[:2] + (("lamp", ("on", "off", "dim")),), 3),
        ]
        for other in others:
            self.assertIs(house == other, False)
            self.assertIs(house != other, True)
        self.assertNotIn(house, others)

    def test_outer_and_inner_are_not_one_row(self):
        self.assertIs(House(things(TWO), (("b", TWO), ("c", TWO))) == House(things(TWO, TWO), (("c", TWO),)), False)

    def test_a_house_and_any_other_thing(self):
        house = House((), LAMP)
        near = [((), LAMP, 4), str(house), repr(house), House, ("lamp", TWO), 1, 4, NotImplemented]
        for thing in odd_things() + near + [AlikeToAll(), Stubborn()]:
            self.assertIs(house == thing, False)
            self.assertIs(house != thing, True)


class TextTest(Case):
    def test_len_and_truth(self):
        self.assertEqual(len(House((), LAMP)), 1)
        self.assertEqual(len(House(OUTER, INNER)), 5)
        self.assertEqual(len(House(things(TWO, TWO, TWO), tuple((name, FOUR) for name in "wxyz"))), 7)
        self.assertIs(bool(House((), LAMP)), True)

    def test_repr(self):
        self.assertEqual(repr(House((), LAMP)), "House(0 outer, 1 inner, 4 hours)")
        self.assertEqual(repr(House(OUTER, INNER, 1)), "House(2 outer, 3 inner, 1 hours)")

    def test_str_row_by_row(self):
        self.assertEqual(str(House(OUTER, INNER, 6)).split("\n"), [
            "hours 6", "outer door shut wide", "outer rain no yes",
            "inner fan low mid high", "inner heat off on", "inner lamp on off"])

    def test_str_without_outer_things(self):
        self.assertEqual(str(House((), LAMP)), "hours 4\ninner lamp on off")

    def test_texts_leave_the_house_as_it_is(self):
        house = House(OUTER, INNER, 6)
        self.assertEqual((str(house), repr(house), len(house)), (str(house), repr(house), len(house)))
        self.assertEqual((house.outer, house.inner, house.hours), (OUTER, INNER, 6))


class ValuesOfTest(Case):
    def test_each_thing(self):
        house = House(OUTER, INNER)
        for name, values in OUTER + INNER:
            self.assertEqual(house.values_of(name), values)
            self.assertIsInstance(house.values_of(name), tuple)

    def test_no_thing_of_the_house(self):
        house = House(OUTER, INNER)
        names = ["lam", "lamps", "on", "shut", "outer", "hours", "a", "is", "", "Lamp", "lamp "]
        for thing in names + odd_things() + [0, OUTER, INNER[0], TWO, house]:
            with self.assertRaises(NoThing) as caught:
                house.values_of(thing)
            self.assertIs(caught.exception.name, thing)
            self.assertIsInstance(caught.exception, LostError)
            self.assertNotIsInstance(caught.exception, ValueError)


class AllOuterTest(Case):
    def test_in_the_order_of_values_the_first_slowest(self):
        house = House((("door", ("shut", "wide", "ajar")), ("rain", ("no", "yes"))), LAMP)
        self.assertEqual(all_outer(house), [
            ("shut", "no"), ("shut", "yes"), ("wide", "no"), ("wide", "yes"), ("ajar", "no"), ("ajar", "yes")])

    def test_of_one_and_of_three_things(self):
        self.assertEqual(all_outer(House(things(FOUR), LAMP)), [("a",), ("b",), ("c",), ("d",)])
        rows = (("b", "a"), ("z", "y", "x"), ("m", "n"))
        self.assertEqual(all_outer(House(things(*rows), LAMP)), list(product(*rows)))

    def test_the_one_empty_tuple_without_outer_things(self):
        self.assertEqual(all_outer(House((), LAMP)), [()])

    def test_a_new_list_each_time(self):
        for house in (House(OUTER, INNER), House((), LAMP)):
            kept = all_outer(house)
            self.assertIsInstance(kept, list)
            told = all_outer(house)
            told.append("more")
            told[0] = None
            self.assertEqual(all_outer(house), kept)
            self.assertIsNot(all_outer(house), kept)
            for way in kept:
                self.assertIsInstance(way, tuple)


class FirstValuesTest(Case):
    def test_of_the_inner_things_in_their_order(self):
        self.assertEqual(first_values(House(OUTER, INNER)), ("low", "off", "on"))
        self.assertEqual(first_values(House((), (("lamp", ("off", "on")),))), ("off",))
        self.assertIsInstance(first_values(House(OUTER, INNER)), tuple)


class OfThingsTest(Case):
    def test_a_thing_with_a_value(self):
        self.assertIs(has_value(INNER, "fan", "mid"), True)
        self.assertIs(has_value(OUTER + INNER, "rain", "yes"), True)
        for name, value in (("fan", "on"), ("rain", "yes"), ("mid", "fan"), ("zoo", "on"), ("fan", "fan")):
            self.assertIs(has_value(INNER, name, value), False)
        for thing in odd_things():
            self.assertIs(has_value(INNER, thing, "on"), False)
            self.assertIs(has_value(INNER, "lamp", thing), False)

    def test_one_value_for_each_thing(self):
        self.assertIs(gives_each(INNER, ("mid", "on", "off")), True)
        self.assertIs(gives_each((), ()), True)
        for row in [("mid", "on"), ("mid", "on", "off", "on"), ["mid", "on", "off"], ("on", "mid", "off"), (),
                    ("mid", "on", AlikeToAll()), (Stubborn(), "on", "off")] + odd_things():
            self.assertIs(gives_each(INNER, row), False)

    def test_rising_names_of_inner_things(self):
        house = House(OUTER, INNER)
        for names in ((), ("heat",), ("fan", "lamp"), ("fan", "heat", "lamp")):
            self.assertIs(are_inner_names(house, names), True)
        for names in (("rain",), ("lamp", "fan"), ("fan", "fan"), ["fan"], "fan", None, ("fan", None), (Stubborn(),),
                      (AlikeToAll(),), ("zoo",), ("fan", "zoo")):
            self.assertIs(are_inner_names(house, names), False)


if __name__ == "__main__":
    unittest.main()
