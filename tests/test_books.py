import itertools
import random
import unittest

from hearthrules.books import Book, read_book
from hearthrules.errors import HearthError, LostError, NoBook, NoName, NoText
from hearthrules.houses import House
from hearthrules.rules import Rule, read_rule
from hearthrules.sayings import Saying
from oddities import AlikeToAll, Stubborn, odd_things

HOUSE = House((("rain", ("no", "yes")),), (("heat", ("off", "on", "max")), ("lamp", ("off", "on"))), 3)
EVE = read_rule("eve 1 2 | hour 2 to 0 | rain is yes | lamp on")
COLD = read_rule("cold 0 0 | rain is yes | - | heat max, lamp off")
MORN = read_rule("morn 0 1 | hour 0 and not lamp is on | heat is on | heat off")
SIX = tuple(read_rule(f"{name} 0 0 | hour 0 | - | lamp on") for name in "abcdef")
SEVENTH = read_rule("g 0 0 | hour 0 | - | lamp on")
HOUSE_ROWS = ["hours 3", "outer rain no yes", "inner heat off on max", "inner lamp off on"]
RULE_ROWS = ["rule " + str(rule) for rule in (COLD, EVE, MORN)]


class Case(unittest.TestCase):
    def assert_refused(self, rule, call, *parts, **more):
        with self.assertRaises(NoBook) as caught:
            call(*parts, **more)
        self.assertEqual(caught.exception.rule, rule)
        self.assertIsInstance(caught.exception, HearthError)

    def assert_lost(self, call, name):
        with self.assertRaises(NoName) as caught:
            call(name)
        self.assertIs(caught.exception.name, name)
        self.assertIsInstance(caught.exception, LostError)

    def assert_unread(self, row, rows):
        with self.assertRaises(NoText) as caught:
            read_book("\n".join(rows) if isinstance(rows, list) else rows)
        self.assertEqual(caught.exception.row, row)
        self.assertIs(type(caught.exception.row), int)


class BookTest(Case):
    def test_values_in_whatever_order_the_rules_came(self):
        for rules in itertools.permutations((EVE, COLD, MORN)):
            book = Book(HOUSE, rules)
            self.assertEqual(book.house, HOUSE)
            self.assertEqual(book.rules, (COLD, EVE, MORN))
            self.assertIsInstance(book.rules, tuple)
            self.assertIs(book == Book(HOUSE, (COLD, EVE, MORN)), True)
            self.assertEqual(str(book), str(Book(HOUSE, rules[::-1])))

    def test_no_rules(self):
        for book in (Book(HOUSE), Book(HOUSE, None), Book(HOUSE, ()), Book(HOUSE, rules=None), Book(HOUSE, rules=())):
            self.assertEqual((book.rules, len(book), bool(book)), ((), 0, False))
            self.assertIs(book == Book(HOUSE), True)

    def test_rules_by_keyword(self):
        self.assertEqual(Book(HOUSE, rules=(EVE,)).rules, (EVE,))

    def test_six_and_seven(self):
        self.assertEqual(len(Book(HOUSE, SIX)), 6)
        self.assert_refused(None, Book, HOUSE, SIX + (SEVENTH,))
        self.assert_refused(None, Book, HOUSE, SIX + (SIX[0],))
        self.assert_refused(None, Book, HOUSE, SIX * 3)

    def test_what_is_no_house_no_tuple_or_has_another_thing(self):
        for thing in odd_things() + [Book(HOUSE), (), House]:
            self.assert_refused(None, Book, thing)
            self.assert_refused(None, Book, thing, (EVE,))
        for thing in odd_things() + [[], [EVE], {"eve": EVE}, EVE, "", (None,), (EVE, None), (str(EVE),), ((EVE,),), 0]:
            if thing is not None:
                self.assert_refused(None, Book, HOUSE, thing)

    def test_what_is_looked_at_ahead(self):
        spoilt = read_rule("x 0 0 | hour 9 | - | lamp on")
        self.assert_refused(None, Book, HOUSE, (spoilt, None))
        self.assert_refused(None, Book, HOUSE, (EVE, EVE, "eve"))
        self.assert_refused(None, Book, HOUSE, (spoilt,) + SIX)
        self.assert_refused(None, Book, None, (spoilt,))
        self.assert_refused(None, Book, HOUSE, [spoilt])

    def test_one_name_twice(self):
        self.assert_refused("eve", Book, HOUSE, (EVE, EVE))
        self.assert_refused("eve", Book, HOUSE, (EVE, COLD, read_rule("eve 0 0 | hour 0 | - | lamp off")))
        self.assert_refused("eve", Book, HOUSE, (COLD, EVE, EVE, COLD))

    def test_rules_that_speak_of_else_than_the_house(self):
        for text in ("fan is on", "rain is on", "lamp is max", "heat is no", "hour 3", "hour 0 to 3", "hour 3 to 0", "hour 10",
                     "lamp is on or hour 4", "not ( lamp is on and not fan is on )"):
            self.assert_refused("x", Book, HOUSE, (Rule("x", Saying(text), (("lamp", "on"),)),))
            self.assert_refused("x", Book, HOUSE, (Rule("x", Saying("hour 0"), (("lamp", "on"),), unless=Saying(text)),))
        for do in ((("rain", "yes"),), (("fan", "on"),), (("lamp", "max"),), (("heat", "yes"),),
                   (("heat", "on"), ("lamp", "max")), (("lamp", "on"), ("rain", "no")), (("on", "lamp"),)):
            self.assert_refused("x", Book, HOUSE, (EVE, Rule("x", Saying("hour 0"), do), COLD))

    def test_hours_below_those_of_the_house(self):
        rule = Rule("x", Saying("hour 2 to 0 and hour 1"), (("lamp", "on"),), 0, 0, Saying("hour 2"))
        self.assertEqual(Book(HOUSE, (rule,)).rules, (rule,))
        self.assert_refused("x", Book, House(HOUSE.outer, HOUSE.inner, 2), (rule,))

    def test_the_first_in_the_order_handed_in_is_told(self):
        one, other = read_rule("z 0 0 | hour 9 | - | lamp on"), read_rule("a 0 0 | hour 0 | - | rain no")
        self.assert_refused("z", Book, HOUSE, (EVE, one, other))
        self.assert_refused("a", Book, HOUSE, (EVE, other, one))
        self.assert_refused("z", Book, HOUSE, (one, EVE, EVE))
        self.assert_refused("eve", Book, HOUSE, (EVE, EVE, one))


class AlikeTest(Case):
    def test_alike_where_houses_and_rules_are(self):
        house = House(HOUSE.outer, HOUSE.inner, 3)
        self.assertIs(Book(HOUSE, (EVE,)) == Book(house, (read_rule(str(EVE)),)), True)
        self.assertIs(Book(HOUSE, (EVE,)) != Book(house, (read_rule(str(EVE)),)), False)

    def test_unlike(self):
        book = Book(HOUSE, (EVE, COLD))
        for other in (Book(HOUSE), Book(HOUSE, (EVE,)), Book(HOUSE, (EVE, COLD, MORN)), Book(HOUSE, (EVE, MORN)),
                      Book(House(HOUSE.outer, HOUSE.inner, 4), (EVE, COLD)),
                      Book(HOUSE, (read_rule(str(EVE).replace("eve 1", "eve 2")), COLD))):
            self.assertIs(book == other, False)
            self.assertIs(book != other, True)
        self.assertIs(Book(HOUSE) == Book(House(HOUSE.outer, HOUSE.inner)), False)

    def test_a_book_and_any_other_thing(self):
        for thing in odd_things() + [HOUSE, (HOUSE, ()), str(Book(HOUSE)), Book, (), 0, AlikeToAll(), Stubborn()]:
            self.assertIs(Book(HOUSE) == thing, False)
            self.assertIs(Book(HOUSE) != thing, True)


class OfRulesTest(Case):
    def setUp(self):
        self.book = Book(HOUSE, (EVE, COLD))

    def tearDown(self):
        self.assertEqual(self.book.rules, (COLD, EVE))
        self.assertEqual(self.book.house, HOUSE)

    def test_named(self):
        self.assertEqual(self.book.named("eve"), EVE)
        self.assertEqual(self.book.named("cold"), COLD)
        for name in ["morn", "lamp", "ev", "eves", "Eve", "", "is", 0, ("eve",), EVE] + odd_things():
            self.assert_lost(self.book.named, name)
            self.assert_lost(Book(HOUSE).named, name)

    def test_with_rule(self):
        told = self.book.with_rule(MORN)
        self.assertEqual(told, Book(HOUSE, (COLD, EVE, MORN)))
        first = read_rule("a 0 0 | hour 0 | - | lamp on")
        self.assertEqual(self.book.with_rule(first).rules, (first, COLD, EVE))
        self.assertEqual(Book(HOUSE).with_rule(EVE).rules, (EVE,))

    def test_with_rule_in_the_place_of_one_of_its_name(self):
        other = read_rule("cold 9 3 | hour 1 | - | lamp off")
        self.assertEqual(self.book.with_rule(other).rules, (other, EVE))
        self.assertEqual(self.book.with_rule(EVE), self.book)
        last = read_rule("c 5 0 | hour 1 | - | lamp off")
        self.assertEqual(Book(HOUSE, SIX).with_rule(last).rules, SIX[:2] + (last,) + SIX[3:])

    def test_with_rule_refused(self):
        self.assert_refused(None, Book(HOUSE, SIX).with_rule, SEVENTH)
        self.assert_refused(None, Book(HOUSE, SIX).with_rule, read_rule("g 0 0 | hour 9 | - | lamp on"))
        self.assert_refused("x", self.book.with_rule, read_rule("x 0 0 | hour 3 | - | lamp on"))
        self.assert_refused("eve", self.book.with_rule, read_rule("eve 0 0 | hour 0 | - | rain no"))
        self.assert_refused("c", Book(HOUSE, SIX).with_rule, read_rule("c 0 0 | hour 9 | - | lamp on"))
        for thing in odd_things() + ["eve", str(EVE), (EVE,), [EVE], 0, Rule, self.book]:
            self.assert_refused(None, self.book.with_rule, thing)

    def test_without(self):
        self.assertEqual(self.book.without("cold").rules, (EVE,))
        self.assertEqual(self.book.without("eve"), Book(HOUSE, (COLD,)))
        self.assertEqual(self.book.without("eve").without("cold"), Book(HOUSE))
        for name in ["morn", "heat", "", "Eve", 0, EVE, ("eve",)] + odd_things():
            self.assert_lost(self.book.without, name)
            self.assert_lost(Book(HOUSE).without, name)


class SizeTest(Case):
    def test_all_multiplied(self):
        self.assertEqual(Book(HOUSE).size(), 3 * 3 * 2)
        self.assertEqual(Book(HOUSE, (COLD,)).size(), 18)
        self.assertEqual(Book(HOUSE, (EVE,)).size(), 18 * 3)
        self.assertEqual(Book(HOUSE, (EVE, COLD, MORN)).size(), 18 * 3 * 2)
        four = tuple((name, ("a", "b", "c", "d")) for name in "abcd")
        rules = tuple(Rule(name, Saying("hour 0"), (("a", "a"),), behind=3) for name in "abcdef")
        self.assertEqual(Book(House((), four, 6), rules).size(), 6 * 4 ** 4 * 4 ** 6)
        self.assertEqual(Book(House((("rain", ("no", "yes")),), (("a", ("a", "b")),), 1)).size(), 2)


class TextTest(Case):
    def test_repr_len_and_truth(self):
        self.assertEqual(repr(Book(HOUSE)), "Book()")
        self.assertEqual(repr(Book(HOUSE, (EVE,))), "Book(eve)")
        self.assertEqual(repr(Book(HOUSE, (MORN, EVE, COLD))), "Book(cold, eve, morn)")
        self.assertEqual(len(Book(HOUSE, (MORN, EVE))), 2)
        self.assertIs(bool(Book(HOUSE, (EVE,))), True)

    def test_str(self):
        self.assertEqual(str(Book(HOUSE)), str(HOUSE))
        self.assertEqual(str(Book(HOUSE, (MORN, EVE, COLD))).split("\n"), HOUSE_ROWS + [
            "rule cold 0 0 | rain is yes | - | heat max, lamp off",
            "rule eve 1 2 | hour 2 to 0 | rain is yes | lamp on",
            "rule morn 0 1 | hour 0 and not lamp is on | heat is on | heat off"])

    def test_read_back(self):
        small = House((), (("lamp", ("off", "on")),), 1)
        for book in (Book(HOUSE), Book(HOUSE, (EVE,)), Book(HOUSE, (EVE, COLD, MORN)), Book(HOUSE, SIX), Book(small)):
            self.assertEqual(read_book(str(book)), book)
            self.assertEqual(str(read_book(str(book))), str(book))

    def test_rule_rows_in_any_order(self):
        for rows in itertools.permutations(RULE_ROWS):
            self.assertEqual(read_book("\n".join(HOUSE_ROWS + list(rows))), Book(HOUSE, (EVE, COLD, MORN)))

    def test_each_number_of_hours(self):
        for hours in range(1, 7):
            self.assertEqual(read_book(f"hours {hours}\ninner lamp off on").house.hours, hours)


class UnreadTest(Case):
    def test_what_is_no_text(self):
        for thing in [thing for thing in odd_things() if not isinstance(thing, str)] + [
                0, 1, (), [], b"hours 3", HOUSE, Book(HOUSE), tuple(HOUSE_ROWS)]:
            with self.assertRaises(NoText) as caught:
                read_book(thing)
            self.assertEqual(caught.exception.row, 0)

    def test_the_first_row(self):
        for row in ("", " ", "hours", "hours ", "hours 0", "hours 7", "hours 10", "hours 03", "hours 3 ", " hours 3", "hours  3",
                    "hours three", "hours 3 3", "Hours 3", "hour 3", "hours +3", "hours -3", "hours3", "hours 33"):
            self.assert_unread(0, [row] + HOUSE_ROWS[1:])
            self.assert_unread(0, [row])
        self.assert_unread(0, HOUSE_ROWS[1:])
        self.assert_unread(0, RULE_ROWS)
        self.assert_unread(0, HOUSE_ROWS[1:2] + HOUSE_ROWS[:1] + HOUSE_ROWS[2:])
        self.assert_unread(0, [""] + HOUSE_ROWS)

    def test_no_inner_row(self):
        self.assert_unread(1, ["hours 3"])
        self.assert_unread(2, ["hours 3", "outer rain no yes"])
        self.assert_unread(3, ["hours 3", "outer door a b", "outer rain no yes"])
        self.assert_unread(1, ["hours 3", RULE_ROWS[0]])
        self.assert_unread(2, ["hours 3", "outer rain no yes", RULE_ROWS[0]])
        self.assert_unread(2, ["hours 3", "outer rain no yes", ""])

    def test_rows_of_things_spoilt(self):
        for word in ("outer", "inner"):
            for row in (word, word + " ", word + " fan", word + " fan on", word + " fan a b c d e", word + " fan on on",
                        word + " fan on off on", word + " fan on  off", word + "  fan on off", word + " fan on off ",
                        " " + word + " fan on off", word + " is on off", word + " fan is off", word + " Fan on off",
                        word + " fan On off", word + ", fan on off", word + " fan, on, off", word + " abcdefghi on off",
                        word[:-1] + " fan on off", word + "s fan on off", word + " fan on 3"):
                self.assert_unread(1, ["hours 3", row, "inner lamp off on"])
                self.assert_unread(2, ["hours 3", "inner ant off on", row])

    def test_rows_twice_out_of_turn_or_too_many(self):
        self.assert_unread(1, ["hours 3"] + HOUSE_ROWS)
        self.assert_unread(2, HOUSE_ROWS[:2] + HOUSE_ROWS[1:])
        self.assert_unread(3, HOUSE_ROWS[:3] + HOUSE_ROWS[2:])
        self.assert_unread(2, ["hours 3", "inner lamp off on", "outer rain no yes"])
        self.assert_unread(3, ["hours 3", "inner heat off on", "inner lamp off on", "outer rain no yes"])
        self.assert_unread(2, ["hours 3", "outer rain no yes", "outer door no yes", "inner lamp off on"])
        self.assert_unread(2, ["hours 3", "inner lamp off on", "inner heat off on"])
        self.assert_unread(2, ["hours 3", "outer lamp off on", "inner lamp off on"])
        self.assert_unread(4, ["hours 3"] + [f"outer {name} a b" for name in "abcd"] + ["inner lamp off on"])
        self.assert_unread(2, ["hours 3", "outer a a b c d", "outer b a b c d", "inner lamp off on"])
        self.assert_unread(3, ["hours 3", "outer a a b c", "outer b a b", "outer c a b c", "inner lamp off on"])
        self.assert_unread(5, ["hours 3"] + [f"inner {name} a b" for name in "abcde"])
        self.assert_unread(4, HOUSE_ROWS + ["hours 3"])
        self.assert_unread(4, HOUSE_ROWS + ["outer zoo a b"])
        self.assert_unread(5, HOUSE_ROWS + RULE_ROWS[:1] + ["inner zoo a b"])
        self.assert_unread(5, HOUSE_ROWS + RULE_ROWS[:1] + ["outer zoo a b"])

    def test_just_four_inner_rows_and_three_outer_ones(self):
        rows = ["hours 3"] + [f"outer {name} a b" for name in "abc"] + [f"inner {name} a b" for name in "defg"]
        self.assertEqual(len(read_book("\n".join(rows)).house), 7)

    def test_empty_rows_and_line_ends(self):
        text = "\n".join(HOUSE_ROWS + RULE_ROWS)
        self.assert_unread(7, text + "\n")
        self.assert_unread(7, text + "\n\n")
        self.assert_unread(0, "\n" + text)
        self.assert_unread(4, HOUSE_ROWS + [""] + RULE_ROWS)
        self.assert_unread(1, HOUSE_ROWS[:1] + [""] + HOUSE_ROWS[1:])
        self.assert_unread(0, "")
        self.assert_unread(0, "\n")

    def test_rule_rows_spoilt(self):
        for row in ("rule", "rule ", "rule  " + str(EVE), " rule " + str(EVE), "Rule " + str(EVE), "rules " + str(EVE), str(EVE),
                    "rule " + str(EVE) + " ", "rule " + str(EVE).replace(" | ", "|"), "rule " + str(EVE) + " | ",
                    "rule eve 0 0 | hour 3 | - | lamp on", "rule eve 0 0 | hour 0 | hour 9 | lamp on",
                    "rule eve 0 0 | hour 0 | - | rain no", "rule eve 0 0 | hour 0 | - | fan on",
                    "rule eve 0 0 | fan is on | - | lamp on", "rule eve 0 0 | lamp is max | - | lamp on",
                    "rule eve 0 0 | hour 0 | - | lamp max"):
            self.assert_unread(4, HOUSE_ROWS + [row])
            self.assert_unread(5, HOUSE_ROWS + RULE_ROWS[:1] + [row])
            self.assert_unread(4, HOUSE_ROWS + [row] + RULE_ROWS)

    def test_rule_rows_twice_and_a_seventh(self):
        self.assert_unread(7, HOUSE_ROWS + RULE_ROWS + RULE_ROWS)
        self.assert_unread(6, HOUSE_ROWS + RULE_ROWS[:2] + ["rule eve 0 0 | hour 0 | - | lamp off"] + RULE_ROWS[2:])
        six = ["rule " + str(rule) for rule in SIX]
        self.assert_unread(10, HOUSE_ROWS + six + ["rule " + str(SEVENTH)])
        self.assert_unread(10, HOUSE_ROWS + six + RULE_ROWS)

    def test_the_first_spoilt_row_is_told(self):
        self.assert_unread(1, ["hours 3", "outer", "inner", "rule"])
        self.assert_unread(4, HOUSE_ROWS + ["rule", "rule"])
        self.assert_unread(3, HOUSE_ROWS[:3] + ["inner ant off on", "rule"])

    def test_rows_left_out_by_chance(self):
        chance = random.Random(7)
        for turn in range(300):
            rows = [row for row in HOUSE_ROWS + RULE_ROWS if chance.randrange(5)]
            text = "\n".join(rows)
            try:
                book = read_book(text)
            except NoText as error:
                self.assertTrue(0 <= error.row <= len(rows))
            else:
                self.assertEqual(str(book), text)


if __name__ == "__main__":
    unittest.main()
