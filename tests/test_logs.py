import random
import unittest

from hearthrules.books import Book
from hearthrules.courses import Course, plain
from hearthrules.errors import HearthError, NoCourse, NoPair, NoText
from hearthrules.houses import House
from hearthrules.logs import is_log, log_of, read_log
from hearthrules.runs import run
from oddities import odd_things
from readings import book_of, some_book, some_course, some_house

HOUSE = House((("rain", ("no", "yes")),), (("fan", ("off", "low")), ("heat", ("on", "off")), ("lamp", ("off", "on"))), 3)
BARE = House((), (("heat", ("off", "on")), ("lamp", ("off", "on"))), 2)
# Words of logs as names of things and values: only their places tell them apart.
ODD = House((("by", ("hand", "free")), ("none", ("fail", "none"))), (("clash", ("restless", "none")), ("fail", ("by", "hand")),
                                                                     ("free", ("fail", "free")), ("hand", ("hand", "clash"))), 1)
NO, YES = ("no",), ("yes",)
BOOK = book_of(HOUSE, "cold 0 0 | rain is yes | - | heat off", "eve 0 0 | lamp is on | - | fan low, heat off",
               "fresh 0 0 | rain is yes and hour 0 | - | fan off")
EXAMPLE = "0 yes hand lamp on | heat off by cold,eve | clash fan"


def course_of(*rows, house=HOUSE):
    return Course(house, rows)


def plain_row(one, row):
    """A row of a log, put together sign by sign."""
    text = str(one.hour)
    for value in row[0]:
        text += " " + value
    for thing, value in row[1]:
        text += f" hand {thing} {value}"
    for thing in row[2]:
        text += f" free {thing}"
    for thing in row[3]:
        text += f" fail {thing}"
    text += " |"
    for at, (turn, thing, value, names) in enumerate(one.doings):
        text += f" {thing} {value} by {','.join(names)}" + (";" if at < len(one.doings) - 1 else "")
    if not one.doings:
        text += " none"
    things = list(dict.fromkeys(thing for thing, names in one.clashes))
    if things:
        text += " | clash" + "".join(f" {thing}" for thing in things)
    return text + (" | restless" if one.restless else "")


def plain_log(book, course):
    return "\n".join(plain_row(one, row) for one, row in zip(run(book, course), course.rows))


class Case(unittest.TestCase):
    def assert_log(self, book, course, text):
        """The text, that it is read back as its course, that it is a log, and that it is told again."""
        self.assertEqual(log_of(book, course), text)
        got = read_log(book.house, text)
        self.assertIs(type(got), Course)
        self.assertEqual(got, course)
        self.assertIs(is_log(book, text), True)
        self.assertEqual(log_of(book, course), text)

    def assert_text(self, row, text, house=HOUSE):
        for question, first in ((read_log, house), (is_log, Book(house))):
            with self.assertRaises(NoText) as caught:
                question(first, text)
            self.assertIs(type(caught.exception), NoText)
            self.assertIsInstance(caught.exception, HearthError)
            self.assertEqual((caught.exception.row, type(caught.exception.row)), (row, int), text)


class LogOfTest(Case):
    def test_the_documents_example(self):
        self.assert_log(BOOK, course_of((YES, (("lamp", "on"),), (), ())), EXAMPLE)

    def test_the_course_without_rows(self):
        self.assert_log(BOOK, Course(HOUSE), "")
        self.assert_log(Book(BARE), Course(BARE), "")

    def test_rows_without_anything(self):
        self.assert_log(Book(HOUSE), plain(HOUSE, (NO, YES, NO, NO)), "0 no | none\n1 yes | none\n2 no | none\n0 no | none")

    def test_no_outer_thing(self):
        book = book_of(BARE, "a 0 0 | hour 1 | - | heat on, lamp on")
        self.assert_log(book, plain(BARE, ((), (), ())), "0 | none\n1 | heat on by a; lamp on by a\n0 | none")
        self.assert_log(book, course_of(((), (("heat", "on"),), (), ("lamp",)), ((), (), ("heat",), ()), house=BARE),
                        "0 hand heat on fail lamp | none\n1 free heat | lamp on by a")

    def test_several_outer_things(self):
        house = House((("door", ("shut", "wide")), ("rain", ("no", "yes"))), BARE.inner, 1)
        self.assert_log(book_of(house, "a 0 0 | door is wide | - | lamp on"), plain(house, (("wide", "no"), ("shut", "yes"))),
                        "0 wide no | lamp on by a\n0 shut yes | none")

    def test_hands_things_let_go_and_failing_ones(self):
        row = (NO, (("fan", "low"), ("lamp", "off")), ("heat",), ("fan", "heat"))
        self.assert_log(Book(HOUSE), course_of(row), "0 no hand fan low hand lamp off free heat fail fan fail heat | none")
        self.assert_log(Book(HOUSE), course_of((NO, (), ("fan", "heat", "lamp"), ())), "0 no free fan free heat free lamp | none")
        self.assert_log(Book(HOUSE), course_of((NO, (), ("fan",), ("fan",))), "0 no free fan fail fan | none")

    def test_doings_of_several_rounds(self):
        book = book_of(HOUSE, "a 0 0 | rain is yes | - | lamp on", "b 0 0 | lamp is on | - | fan low, heat off", "c 0 0 | rain is yes | - | lamp on",
                       "d 0 0 | heat is off | - | heat on")
        self.assert_log(book, plain(HOUSE, (YES,)), "0 yes | lamp on by a,c; fan low by b; heat off by b | clash heat")

    def test_restless(self):
        book = book_of(HOUSE, "a 0 0 | rain is yes and lamp is off | - | lamp on", "b 0 0 | rain is yes and lamp is on | - | lamp off")
        self.assert_log(book, plain(HOUSE, (YES, NO)), "0 yes | lamp on by a; lamp off by b | restless\n1 no | none")
        book = book.with_rule(book_of(HOUSE, "c 0 0 | rain is yes | - | fan low").named("c"))
        book = book.with_rule(book_of(HOUSE, "d 0 0 | rain is yes | - | fan off").named("d"))
        self.assert_log(book, plain(HOUSE, (YES,)), "0 yes | lamp on by a; lamp off by b | clash fan | restless")
        book = book_of(HOUSE, "c 0 0 | rain is yes | - | fan low", "d 0 0 | rain is yes | - | fan off")
        self.assert_log(book, plain(HOUSE, (YES,)), "0 yes | none | clash fan")

    def test_a_thing_over_which_rules_clash_twice_stands_once(self):
        book = book_of(HOUSE, "a 0 0 | hour 0 | - | heat off", "b 0 0 | lamp is off | - | heat on", "c 0 0 | lamp is on | - | heat on",
                       "d 0 0 | rain is yes | - | fan low, lamp on", "e 0 0 | rain is yes | - | fan off")
        self.assertEqual(len(run(book, plain(HOUSE, (YES,)))[0].clashes), 3)
        self.assert_log(book, plain(HOUSE, (YES,)), "0 yes | lamp on by d | clash fan heat")

    def test_things_over_which_rules_clash_stand_in_order(self):
        # Many names, so that no other order, such as that of a set, can be the right one for all of them by luck.
        for first in "abcdefghijklmnopqrst":
            names = tuple(first + last for last in "bdmz")
            house = House((), tuple((name, ("off", "on")) for name in names), 1)
            book = book_of(house, *[f"{rule} 0 0 | hour 0 | - | " + ", ".join(f"{name} {value}" for name in names)
                                    for rule, value in (("p", "on"), ("q", "off"))])
            self.assert_log(book, plain(house, ((),)), "0 | none | clash " + " ".join(names))

    def test_names_that_are_words_of_logs(self):
        book = book_of(ODD, "by 0 0 | by is free | - | clash none, hand clash", "none 0 0 | clash is none | - | free free")
        row = (("free", "fail"), (("fail", "hand"),), ("hand",), ("free",))
        self.assert_log(book, course_of(row, house=ODD), "0 free fail hand fail hand free hand fail free | clash none by by; hand clash by by")
        row = (("hand", "none"), (("free", "free"), ("hand", "hand")), ("clash", "fail"), ("fail", "hand"))
        self.assert_log(book, course_of(row, house=ODD),
                        "0 hand none hand free free hand hand hand free clash free fail fail fail fail hand | none")

    def test_sixty_rows_and_sixty_one(self):
        row = "{} no | none"
        text = "\n".join(row.format(number % 3) for number in range(60))
        self.assert_log(Book(HOUSE), plain(HOUSE, (NO,) * 60), text)
        for course in (plain(HOUSE, (NO,) * 61), plain(HOUSE, (NO,) * 999), plain(BARE, ((),) * 61)):
            with self.assertRaises(NoCourse) as caught:
                log_of(BOOK, course)
            self.assertIs(type(caught.exception), NoCourse)
            self.assertIsNone(caught.exception.number)
        self.assert_text(60, text + "\n0 no | none")
        self.assert_text(60, text + "\nx\nx")
        self.assert_text(60, text + "\n")
        rows = text.split("\n") + ["0 no | none"] * 5
        rows[7] = "x"
        self.assert_text(7, "\n".join(rows))

    def test_a_course_of_another_house(self):
        for course in (Course(BARE), plain(BARE, ((),) * 60), plain(House(HOUSE.outer, HOUSE.inner, 4), (NO,))):
            with self.assertRaises(NoPair) as caught:
                log_of(BOOK, course)
            self.assertIs(type(caught.exception), NoPair)


class ReadLogTest(Case):
    def test_what_stands_behind_the_bar_means_nothing(self):
        wet = plain(HOUSE, (YES,))
        for part in ("none", "lamp on by a", "zoo max by x,y,x; zoo max by x", "a b by c; a b by c; lamp on by c,b,a,a", "none | restless",
                     "none | clash lamp", "none | clash zoo fan zoo", "a b by c | clash lamp lamp | restless", "none none by none",
                     "by by by by,by", "clash restless by clash | clash clash | restless", "none | clash restless", "none | clash none | restless"):
            self.assertEqual(read_log(HOUSE, "0 yes | " + part), wet)
            self.assertEqual(read_log(HOUSE, "0 yes | none\n1 no | " + part + "\n2 no | none"), plain(HOUSE, (YES, NO, NO)))

    def test_an_hour_is_any_number(self):
        for hour in ("0", "1", "2", "3", "9", "10", "99"):
            self.assertEqual(read_log(HOUSE, hour + " yes | none"), plain(HOUSE, (YES,)))
        for hour in ("00", "01", "100", "-1", "", "a", "+1", "1.0", "1 ", "hour"):
            self.assert_text(0, hour + " yes | none")

    def test_ahead_of_the_bar_all_must_be_a_row_of_a_course(self):
        good = "0 yes hand fan low hand lamp on free heat fail fan fail heat | none"
        self.assertEqual(len(read_log(HOUSE, good)), 1)
        for head in ("0", "0 yes no", "0 on", "0 Yes", "yes", "yes 0", "0 yes hand lamp", "0 yes hand lamp dim", "0 yes hand zoo on", "0 yes lamp on",
                     "0 yes hand rain no", "0 yes hand lamp on fan low", "0 yes hand lamp on hand fan low", "0 yes hand lamp on hand lamp on",
                     "0 yes hand lamp on hand lamp off", "0 yes free", "0 yes free rain", "0 yes free zoo", "0 yes free lamp free fan",
                     "0 yes free fan free fan", "0 yes free fan lamp", "0 yes hand fan low free fan", "0 yes fail", "0 yes fail rain",
                     "0 yes fail lamp fail fan", "0 yes fail lamp fail lamp", "0 yes fail lamp on", "0 yes fail fan free lamp",
                     "0 yes free fan hand lamp on", "0 yes fail fan hand lamp on", "0 yes hand", "0 yes take fan", "0 yes hand fan low fail",
                     "0  yes", " 0 yes", "0 yes ", "", " ", "0 yes none", "0 hand lamp on", "0 yes, no", "0 yes\thand fan low"):
            self.assert_text(0, head + " | none")
            self.assert_text(2, "0 yes | none\n1 no | none\n" + head + " | none\n0 yes | none")

    def test_behind_the_bar_the_form_counts(self):
        for part in ("", " ", "None", "none ", " none", "none none", "none;", "none; none", "lamp on", "lamp on by", "lamp on by ", "lamp by a",
                     "lamp on by a b", "lamp on by a,", "lamp on by ,a", "lamp on by a,,b", "lamp on by a, b", "lamp on by A", "lamp on at a",
                     "lamp on by a;", "lamp on by a; ", "lamp on by a;lamp on by a", "lamp on by a ; lamp on by a", "lamp on by a; none",
                     "lamp  on by a", "Lamp on by a", "lamp on0 by a", "lamp on by hour", "is on by a", "lamp to by a", "abcdefghi on by a",
                     "none | clash", "none | clash ", "none | clash lamp ", "none | clash  lamp", "none | clash lamp,fan", "none | clash Lamp",
                     "none | clash not", "none | clash lamp | clash fan", "none | restless | clash lamp", "none | restless | restless",
                     "none | restless ", "none | rest", "none | ", "none |", "none | none", "none | lamp on by a", "clash lamp", "restless",
                     "clash lamp | restless", "none  | restless", "none |  restless", "none | clash lamp restless | x", "none|restless",
                     "lamp on by a | clash lamp | restless | none"):
            self.assert_text(0, "0 yes | " + part)
            self.assert_text(1, "0 yes | none\n1 yes | " + part)

    def test_the_bar_itself(self):
        for text in ("0 yes", "0 yes |", "0 yes | ", "0 yes none", "0 yes| none", "0 yes |none", "0 yes  | none", "0 yes |  none", "| none", " | none",
                     "0 | yes | none", "0 yes | | none", "0 yes || none", "none", "|"):
            self.assert_text(0, text)
        self.assert_text(0, "0 yes | none", BARE)
        self.assert_text(0, "0  | none", BARE)
        self.assertEqual(read_log(BARE, "0 | none"), plain(BARE, ((),)))

    def test_line_ends(self):
        self.assert_text(0, "\n")
        self.assert_text(0, "\n0 yes | none")
        self.assert_text(1, "0 yes | none\n")
        self.assert_text(1, "0 yes | none\n\n1 yes | none")
        self.assert_text(0, " ")

    def test_words_more_and_fewer_and_rows_exchanged(self):
        text = log_of(BOOK, course_of((YES, (("lamp", "on"),), (), ()), (NO, (), ("lamp",), ("fan",)), (YES, (), (), ())))
        rows = text.split("\n")
        self.assertEqual(len(rows), 3)
        for number, row in enumerate(rows):
            for at, word in enumerate(row.split(" ")):
                for words in (row.split(" ")[:at] + row.split(" ")[at + 1:], row.split(" ")[:at] + ["", *row.split(" ")[at:]],
                              row.split(" ")[:at] + ["Zoo", *row.split(" ")[at:]]):
                    spoilt = "\n".join([*rows[:number], " ".join(words), *rows[number + 1:]])
                    self.spoilt(number, spoilt, text)
        # Exchanged, they are still read, but no log of the book.
        exchanged = "\n".join(rows[::-1])
        self.assertEqual(read_log(HOUSE, exchanged).rows, read_log(HOUSE, text).rows[::-1])
        self.assertIs(is_log(BOOK, exchanged), False)

    def spoilt(self, number, text, told):
        """A text with a word more or fewer in one row: refused for this row, or at least no log."""
        try:
            read_log(HOUSE, text)
        except NoText as error:
            self.assertEqual(error.row, number)
        else:
            self.assertNotEqual(text, told)
            self.assertIs(is_log(BOOK, text), False, text)

    def test_what_is_no_text(self):
        for thing in odd_things() + [0, (), [], [EXAMPLE], (EXAMPLE,), EXAMPLE.encode(), Course(HOUSE), BOOK]:
            if not isinstance(thing, str):
                self.assert_text(0, thing)
        self.assertEqual(read_log(HOUSE, ""), Course(HOUSE))


class IsLogTest(Case):
    def test_true_and_false(self):
        self.assertIs(is_log(BOOK, EXAMPLE), True)
        for text in ("1 yes hand lamp on | heat off by cold,eve | clash fan", "0 no hand lamp on | heat off by cold,eve | clash fan",
                     "0 yes | heat off by cold,eve | clash fan", "0 yes hand lamp on fail fan | none | clash fan",
                     "0 yes hand lamp on | heat off by eve,cold | clash fan", "0 yes hand lamp on | heat off by cold | clash fan",
                     "0 yes hand lamp on | heat on by cold,eve | clash fan", "0 yes hand lamp on | heat off by cold,eve",
                     "0 yes hand lamp on | heat off by cold,eve | clash fan fan", "0 yes hand lamp on | heat off by cold,eve | clash fan | restless",
                     "0 yes hand lamp on | none | clash fan", "0 yes hand lamp on | heat off by cold,eve; heat off by cold,eve | clash fan",
                     EXAMPLE + "\n" + EXAMPLE):
            self.assertIs(is_log(BOOK, text), False, text)
        self.assertIs(is_log(Book(HOUSE), EXAMPLE), False)
        self.assertIs(is_log(BOOK, ""), True)
        self.assertIs(is_log(Book(HOUSE), "3 no | none"), False)

    def test_the_book_stays_as_it_was(self):
        text = str(BOOK)
        is_log(BOOK, EXAMPLE)
        self.assertEqual(str(BOOK), text)


class ByChanceTest(Case):
    def test_logs_are_read_back_as_their_courses(self):
        chance = random.Random(71)
        seen = {}
        for turn in range(700):
            house = some_house(chance)
            book = some_book(chance, house)
            course = some_course(chance, house, chance.randrange(8))
            text = plain_log(book, course)
            self.assert_log(book, course, text)
            for word in (" hand ", " free ", " fail ", " by ", ",", ";", " clash ", " restless", "none"):
                seen[word] = seen.get(word, 0) + (word in text)
            other = some_book(chance, house)
            self.assertIs(is_log(other, text), plain_log(other, course) == text)
        self.assertGreater(min(seen.values()), 4, seen)


if __name__ == "__main__":
    unittest.main()
