import random
import unittest

from hearthrules.books import Book
from hearthrules.checker import holds
from hearthrules.comes import clash, doing, restless, silent
from hearthrules.courses import Course
from hearthrules.desk import Desk
from hearthrules.errors import HearthError, LostError, NoBook, NoCourse, NoName, NoOuter, NoRow, NoSaying, NoText, NoThing, TooMany
from hearthrules.few import fewest
from hearthrules.houses import House, all_outer
from hearthrules.logs import log_of
from hearthrules.papers import paper_clash
from hearthrules.runs import run
from hearthrules.wishes import always
from oddities import odd_things
from readings import WIDE, book_of, some_book, some_course, some_house, some_rule, some_saying

HOUSE = House((("rain", ("no", "yes")),), (("heat", ("off", "on")), ("lamp", ("off", "on"))), 3)
TWO = House((("door", ("shut", "wide")), ("rain", ("no", "yes"))), HOUSE.inner, 2)
BARE = House((), HOUSE.inner, 2)
WET, DRY = "wet 0 0 | rain is yes | - | lamp on", "dry 0 0 | rain is no | - | lamp off"
LATE = "late 2 1 | lamp is on | hour 2 | heat on, lamp on"


def desk_of(*rows, house=HOUSE):
    desk = Desk(house)
    for row in rows:
        desk.say(row)
    return desk


class Case(unittest.TestCase):
    def assert_says(self, desk, *rows):
        """Each row, followed by its answer."""
        for row, answer in zip(rows[::2], rows[1::2], strict=True):
            got = desk.say(row)
            self.assertIs(type(got), str)
            self.assertEqual(got, answer, row)

    def state(self, desk, house=HOUSE):
        """All that a desk tells of how it stands."""
        return [desk.say("hour"), desk.say("book")] + [desk.say("what " + name) for name, values in house.inner]

    def assert_refused(self, kind, desk, row, house=HOUSE):
        ahead = self.state(desk, house)
        with self.assertRaises(kind) as caught:
            desk.say(row)
        self.assertIs(type(caught.exception), kind)
        self.assertIsInstance(caught.exception, (HearthError, LostError))
        self.assertEqual(self.state(desk, house), ahead)
        return caught.exception


class BookTest(Case):
    def test_rules_are_put_in_and_dropped(self):
        desk = Desk(HOUSE)
        self.assert_says(desk, "book", "none", "rule " + WET, "ok", "book", WET, "rule " + DRY, "ok", "book", f"{DRY}; {WET}",
                         "rule " + LATE, "ok", "book", f"{DRY}; {LATE}; {WET}", "drop dry", "ok", "book", f"{LATE}; {WET}",
                         "drop wet", "ok", "drop late", "ok", "book", "none")

    def test_one_of_a_name_that_stands(self):
        other = "wet 9 3 | rain is yes | hour 1 to 0 | heat on"
        desk = desk_of("rule " + WET, "rule " + DRY)
        self.assert_says(desk, "rule " + WET, "ok", "book", f"{DRY}; {WET}", "rule " + other, "ok", "book", f"{DRY}; {other}")

    def test_counts_as_for_a_change(self):
        slow = "slow 0 2 | rain is yes | - | lamp on"
        ahead = ["rule " + slow, "next yes", "next yes"]
        self.assert_says(desk_of(*ahead), "next yes", "lamp on by slow")
        self.assert_says(desk_of(*ahead, "rule " + slow), "next yes", "lamp on by slow")
        self.assert_says(desk_of(*ahead, "rule a 0 3 | hour 0 | - | heat off", "rule z 0 3 | hour 0 | - | heat off"), "next yes", "lamp on by slow")
        self.assert_says(desk_of(ahead[0], "rule a 0 3 | hour 0 | - | heat off", *ahead[1:], "drop a"), "next yes", "lamp on by slow")
        for rows in (["drop slow", ahead[0]], ["rule slow 1 2 | rain is yes | - | lamp on"], ["rule slow 0 2 | not rain is no | - | lamp on"],
                     ["drop slow", "rule slaw 0 2 | rain is yes | - | lamp on"]):
            desk = desk_of(*ahead, *rows)
            self.assert_says(desk, "next yes", "none", "next yes", "none")
            self.assertEqual(desk.say("next yes")[:15], "lamp on by " + desk.say("book")[:4])

    def test_a_seventh_rule(self):
        desk = desk_of(*[f"rule {name} 0 0 | hour 0 | - | lamp on" for name in "abcdef"])
        self.assertIsNone(self.assert_refused(NoBook, desk, "rule g 0 0 | hour 0 | - | lamp on").rule)
        self.assert_says(desk, "rule f 1 0 | hour 0 | - | lamp on", "ok")

    def test_what_is_no_rule(self):
        desk = desk_of("rule " + WET)
        for text in ("", " ", "wet", WET + " ", " " + WET, WET.replace(" | ", " |  ", 1), WET + " | x", "wet 0 0 | rain is yes | lamp on",
                     "Wet 0 0 | hour 0 | - | lamp on", "wet 0 4 | hour 0 | - | lamp on", WET + "\n" + DRY, "wet 0 0 | hour | - | lamp on"):
            self.assertEqual(self.assert_refused(NoText, desk, "rule " + text).row, 0)
        for text in ("zoo 0 0 | fan is on | - | lamp on", "zoo 0 0 | hour 3 | - | lamp on", "zoo 0 0 | hour 0 | - | rain no",
                     "zoo 0 0 | hour 0 | - | lamp dim", "zoo 0 0 | hour 0 | fan is off | lamp on"):
            self.assertEqual(self.assert_refused(NoBook, desk, "rule " + text).rule, "zoo")

    def test_drop_of_what_is_not_there(self):
        desk = desk_of("rule " + WET)
        for name in ("dry", "lamp", "", "Wet", "rule"):
            self.assertEqual(self.assert_refused(NoName, desk, "drop " + name).name, name)
        self.assert_refused(NoName, Desk(HOUSE), "drop wet")


class NextTest(Case):
    def test_moments(self):
        desk = desk_of("rule " + WET, "rule " + DRY, "rule " + LATE)
        self.assert_says(desk, "hour", "0", "what lamp", "off", "next yes", "lamp on by wet", "hour", "1", "what lamp", "on", "what heat", "off",
                         "next no", "heat on by late", "hour", "2", "what heat", "on", "next no", "lamp off by dry", "hour", "0", "next no", "none")

    def test_several_doings_clashes_and_restless_moments(self):
        desk = desk_of("rule a 0 0 | rain is yes | - | heat on, lamp on", "rule b 0 0 | rain is yes | - | lamp on")
        self.assert_says(desk, "next yes", "heat on by a; lamp on by a,b")
        desk = desk_of("rule a 0 0 | rain is yes | - | lamp on", "rule b 0 0 | rain is yes | - | lamp off", "rule c 0 0 | hour 1 | - | heat on")
        self.assert_says(desk, "next yes", "none | clash lamp", "next yes", "heat on by c | clash lamp", "next no", "none")
        desk = desk_of("rule a 0 0 | lamp is off | - | lamp on", "rule b 0 0 | lamp is on | - | lamp off")
        self.assert_says(desk, "next no", "lamp on by a; lamp off by b | restless")
        desk = desk_of("rule a 0 0 | lamp is off | - | lamp on", "rule b 0 0 | lamp is on | - | lamp off",
                       "rule c 0 0 | hour 0 | - | heat on", "rule d 0 0 | hour 0 | - | heat off")
        self.assert_says(desk, "next no", "lamp on by a; lamp off by b | clash heat | restless")

    def test_other_numbers_of_outer_things(self):
        desk = desk_of("rule a 0 0 | hour 1 | - | lamp on", house=BARE)
        self.assert_says(desk, "next", "none", "next", "lamp on by a", "hour", "0")
        for row in ("next ", "next no", "next - "):
            self.assert_refused(NoRow, desk, row, BARE)
        desk = desk_of("rule a 0 0 | door is wide and rain is no | - | lamp on", house=TWO)
        self.assert_says(desk, "next shut no", "none", "next wide no", "lamp on by a")
        for row in ("next", "next wide", "next wide no no", "next wide no ", "next  wide no"):
            self.assert_refused(NoRow, desk, row, TWO)
        for row in ("next no wide", "next wide wide", "next wide ", "next  no", "next  "):
            self.assert_refused(NoOuter, desk, row, TWO)

    def test_too_few_too_many_and_wrong_values(self):
        desk = desk_of("rule " + WET)
        for row in ("next", "next no no", "next no ", "next  no", "next  "):
            self.assert_refused(NoRow, desk, row)
        for row in ("next on", "next ", "next No", "next rain", "next no,"):
            self.assert_refused(NoOuter, desk, row)


class HandsTest(Case):
    def test_a_hand(self):
        desk = desk_of("rule " + WET, "rule " + DRY)
        self.assert_says(desk, "hand lamp on", "ok", "what lamp", "off", "next no", "none", "what lamp", "on", "next no", "none", "what lamp", "on",
                         "free lamp", "ok", "what lamp", "on", "next no", "lamp off by dry", "next yes", "lamp on by wet")

    def test_a_failing_thing_for_the_next_moment_alone(self):
        desk = desk_of("rule " + WET)
        self.assert_says(desk, "fail lamp", "ok", "next yes", "none", "what lamp", "off", "next yes", "lamp on by wet")

    def test_a_hand_on_a_failing_thing(self):
        for rows in (("hand lamp on", "fail lamp"), ("fail lamp", "hand lamp on")):
            desk = desk_of("rule " + WET, *rows)
            self.assert_says(desk, "next yes", "none", "what lamp", "off", "next yes", "none", "free lamp", "ok", "next yes", "lamp on by wet")

    def test_several_in_any_turn(self):
        desk = desk_of("rule " + WET, "hand lamp off", "hand heat on", "fail lamp", "fail heat")
        self.assert_says(desk, "next yes", "none", "what heat", "off", "hand heat on", "ok", "free lamp", "ok", "next yes", "lamp on by wet",
                         "what heat", "on", "free lamp", "ok", "free heat", "ok", "fail lamp", "ok", "next no", "none")

    def test_twice_and_both_ways(self):
        for ahead, row in ((["hand lamp on"], "hand lamp on"), (["hand lamp on"], "hand lamp off"), (["free lamp"], "free lamp"),
                           (["fail lamp"], "fail lamp"), (["hand lamp on"], "free lamp"), (["free lamp"], "hand lamp on"),
                           (["hand heat on", "hand lamp on"], "free heat"), (["free lamp", "fail heat"], "fail heat")):
            desk = desk_of("rule " + WET, *ahead)
            self.assertIsNone(self.assert_refused(NoCourse, desk, row).number)
            # What was told ahead of the refusal stands.
            self.assert_refused(NoCourse, desk, ahead[0])
            desk.say("next no")
            for told in ahead:
                self.assert_says(desk, told, "ok")

    def test_a_refused_hand_leaves_the_others(self):
        desk = desk_of("rule " + WET, "hand heat on")
        self.assert_refused(NoCourse, desk, "hand heat off")
        self.assert_refused(NoCourse, desk, "free heat")
        self.assert_refused(NoOuter, desk, "next maybe")
        self.assert_refused(NoRow, desk, "next")
        self.assert_says(desk, "next no", "none", "what heat", "on")
        self.assert_says(desk, "hand heat off", "ok", "next no", "none", "what heat", "off")

    def test_things_and_values_that_are_none(self):
        desk = desk_of("rule " + WET)
        for row in ("hand rain no", "hand fan on", "hand lamp dim", "hand lamp ", "hand  on", "hand  ", "free rain", "free fan", "free ", "fail rain",
                    "fail fan", "fail ", "fail Lamp"):
            self.assertIsNone(self.assert_refused(NoCourse, desk, row).number)
        self.assert_says(desk, "next yes", "lamp on by wet")

    def test_they_wait_while_the_book_changes(self):
        desk = desk_of("hand lamp on", "rule " + DRY, "fail heat", "drop dry", "rule " + LATE)
        self.assert_says(desk, "next no", "none", "what lamp", "on", "rule " + DRY, "ok", "next no", "heat on by late", "what lamp", "on")

    def test_what_is_held_stays_so_while_the_book_changes(self):
        desk = desk_of("hand lamp on", "next no", "rule " + DRY)
        self.assert_says(desk, "next no", "none", "drop dry", "ok", "rule " + DRY, "ok", "next no", "none", "free lamp", "ok", "next no", "lamp off by dry")

    def test_a_thing_let_go_that_is_not_held(self):
        self.assert_says(desk_of("rule " + WET), "free lamp", "ok", "free heat", "ok", "next yes", "lamp on by wet")


class WhatTest(Case):
    def test_values(self):
        desk = desk_of("rule " + WET)
        self.assert_says(desk, "what heat", "off", "what lamp", "off", "next yes", "lamp on by wet", "what heat", "off", "what lamp", "on")

    def test_what_is_no_inner_thing(self):
        for name in ("rain", "fan", "", "on", "wet", "Lamp"):
            self.assertEqual(self.assert_refused(NoThing, desk_of("rule " + WET), "what " + name).name, name)


class QuestionsTest(Case):
    def test_never_and_none(self):
        for house in (HOUSE, BARE, TWO):
            self.assert_says(Desk(house), "clash", "never", "restless", "never", "silent", "none", "fewest", "none", "paper", "holds",
                             "always lamp is off", "always")

    def test_courses(self):
        desk = desk_of("rule " + WET, "rule slow 0 1 | rain is yes and hour 2 | - | lamp off", "rule b 0 1 | rain is yes | - | lamp off")
        self.assert_says(desk, "clash", "yes yes", "always lamp is off", "yes", "always rain is no", "yes", "always hour 0 to 1", "no no no",
                         "doing wet", "yes", "doing slow", "never", "silent", "b slow", "restless", "never", "paper", "holds")
        desk = desk_of("rule a 0 0 | hour 2 and lamp is off | - | lamp on", "rule b 0 0 | lamp is on and rain is yes | - | lamp off")
        self.assert_says(desk, "restless", "no no yes", "clash", "never", "doing b", "no no yes", "doing a", "no no no")

    def test_courses_of_several_outer_things_and_of_none(self):
        desk = desk_of("rule a 0 1 | door is wide and rain is yes | - | lamp on", "rule b 0 0 | door is wide and hour 1 | - | lamp off", house=TWO)
        self.assert_says(desk, "clash", "wide,yes wide,yes", "doing a", "shut,no wide,yes wide,yes", "always door is shut", "wide,no")
        desk = desk_of("rule a 0 1 | hour 0 to 1 | - | lamp on", "rule b 0 2 | lamp is on | - | lamp off", house=BARE)
        self.assert_says(desk, "clash", "- - - -", "doing a", "- -", "always lamp is off", "- -", "always hour 0", "- -")

    def test_fewest(self):
        desk = desk_of("rule " + WET, "rule a 0 0 | not rain is no | - | lamp on")
        self.assert_says(desk, "fewest", "a", "rule " + DRY, "ok", "fewest", "a dry", "silent", "none")

    def test_they_go_from_the_first_standing_on_whatever_has_come(self):
        desk = desk_of("rule slow 0 2 | rain is yes | - | lamp on")
        answers = [desk.say(row) for row in ("doing slow", "always lamp is off", "clash", "silent", "fewest", "paper")]
        self.assertEqual(answers, ["yes yes yes", "yes yes yes", "never", "none", "slow", "holds"])
        for row in ("next yes", "next yes", "hand lamp on", "fail heat", "next yes"):
            desk.say(row)
            self.assertEqual([desk.say(row) for row in ("doing slow", "always lamp is off", "clash", "silent", "fewest", "paper")], answers)
        self.assert_says(desk, "hour", "0", "what lamp", "on")

    def test_refused_as_the_functions_refuse(self):
        desk = desk_of("rule " + WET)
        for name in ("dry", "", "lamp"):
            self.assertEqual(self.assert_refused(NoName, desk, "doing " + name).name, name)
        for text, at in (("", 0), (" ", 0), ("lamp", 1), ("lamp is", 2), (" lamp is on", 0), ("lamp is on ", 3), ("lamp  is on", 1), ("hour 01", 1)):
            self.assertEqual(self.assert_refused(NoSaying, desk, "always " + text).at, at)
        for text in ("fan is on", "lamp is dim", "hour 3"):
            self.assertIsNone(self.assert_refused(NoBook, desk, "always " + text).rule)

    def test_too_many(self):
        desk = desk_of("rule wet 0 0 | rain is yes | - | lamp b", house=WIDE)
        for row in ("clash", "restless", "silent", "doing wet", "always lamp is a", "fewest", "paper"):
            error = self.assert_refused(TooMany, desk, row, WIDE)
            self.assertEqual((error.many, error.most), (512, 400))
        self.assert_refused(NoName, desk, "doing dry", WIDE)
        self.assert_refused(NoBook, desk, "always lamp is on", WIDE)
        self.assert_says(desk, "next yes", "lamp b by wet")
        six = desk_of(*[f"rule {name} 0 0 | hour 0 | - | lamp on" for name in "abcdef"])
        error = self.assert_refused(TooMany, six, "fewest")
        self.assertEqual((error.many, error.most), (6, 5))
        self.assert_says(six, "silent", "none", "clash", "never")


class RowsTest(Case):
    def test_rows_of_other_words_or_numbers_of_words(self):
        desk = desk_of("rule " + WET, "rule " + LATE, "next yes")
        alone = ("hour", "book", "clash", "restless", "silent", "fewest", "paper")
        rows = ["", " ", "  ", "\n", "hours", "Hour", "HOUR", "say", "ok", "none", "moment", "is", "rules", "wet", "always-", "help", "next\nno", "hour\n"]
        rows += [word + " " for word in alone] + [" " + word for word in alone] + [word + " wet" for word in alone] + [word + "  " for word in alone]
        rows += ["rule", "drop", "next", "hand", "free", "fail", "what", "doing", "always"]
        rows += [" rule " + WET, " drop wet", "drop wet ", "drop  wet", "drop wet late", "doing  wet", "doing wet ", "doing wet late", "what lamp ",
                 "what  lamp", "what heat lamp", "hand lamp", "hand ", "hand lamp on ", "hand  lamp on", "hand lamp  on", "hand lamp on off",
                 "hand heat on lamp on", "free lamp ", "free heat lamp", "free  lamp", "fail lamp ", "fail heat lamp", "fail lamp on", " always lamp is on",
                 " next no", "rule:" + WET, "\tnext no", "next\tno", "clash lamp"]
        for row in rows:
            self.assert_refused(NoRow, desk, row)

    def test_what_is_no_text(self):
        desk = desk_of("rule " + WET)
        for row in odd_things() + [0, 1, (), [], ["hour"], ("hour",), b"hour", {"hour": 1}, Desk, desk]:
            self.assert_refused(NoRow, desk, row)

    def test_a_desk_of_what_it_was_made_of(self):
        text = str(HOUSE)
        desk_of("rule " + WET, "next yes", "hand lamp off", "next no")
        self.assertEqual(str(HOUSE), text)

    def test_two_desks_told_by_turns(self):
        one, two = Desk(HOUSE), Desk(HOUSE)
        self.assert_says(one, "rule " + WET, "ok")
        self.assert_says(two, "book", "none", "hand lamp on", "ok")
        self.assert_says(one, "next yes", "lamp on by wet", "hour", "1")
        self.assert_says(two, "hour", "0", "what lamp", "off", "rule " + DRY, "ok", "next no", "none", "what lamp", "on")
        self.assert_says(one, "book", WET, "drop wet", "ok", "fail heat", "ok")
        self.assert_says(two, "book", DRY, "next no", "none", "free lamp", "ok", "next no", "lamp off by dry", "hour", "0")
        self.assert_says(one, "hour", "1", "what lamp", "on", "next no", "none")


class ByChanceTest(Case):
    def answer(self, told):
        if told[0] in ("never", "always"):
            return told[0]
        return " ".join(",".join(row[0]) or "-" for row in told[1].rows)

    def test_questions_as_the_functions_tell(self):
        chance = random.Random(91)
        for turn in range(60):
            house = some_house(chance)
            book, saying = some_book(chance, house), some_saying(chance, house)
            desk = desk_of(*["rule " + str(rule) for rule in chance.sample(book.rules, len(book))], house=house)
            for moments in range(2):
                self.assert_says(desk, "clash", self.answer(clash(book)), "restless", self.answer(restless(book)),
                                 "silent", " ".join(silent(book)) or "none", "fewest", " ".join(fewest(book)[0]) or "none",
                                 f"always {saying}", self.answer(always(book, saying)), "paper", "holds" if holds(*paper_clash(book)) else "no",
                                 "book", "; ".join(str(rule) for rule in book.rules) or "none")
                for rule in book.rules:
                    self.assert_says(desk, "doing " + rule.name, self.answer(doing(book, rule.name)))
                desk.say(" ".join(["next", *chance.choice(all_outer(house))]))

    def test_moments_as_a_run_with_changes_tells(self):
        chance = random.Random(92)
        seen = {}
        for turn in range(300):
            house = some_house(chance)
            first = book = some_book(chance, house)
            course = some_course(chance, house, 7)
            desk = desk_of(*["rule " + str(rule) for rule in book.rules], house=house)
            changes, answers = [], []
            for number, (outer, hands, freed, failing) in enumerate(course.rows):
                if chance.randrange(3) == 0 and len(book):
                    name = chance.choice(book.rules).name
                    if chance.randrange(2):
                        book = book.without(name)
                        desk.say("drop " + name)
                    else:
                        rule = some_rule(chance, house, name)
                        book = book.with_rule(rule)
                        desk.say(f"rule {rule}")
                    changes.append((number, book))
                rows = [f"hand {thing} {value}" for thing, value in hands] + ["free " + thing for thing in freed] + ["fail " + thing for thing in failing]
                for row in chance.sample(rows, len(rows)):
                    self.assert_says(desk, row, "ok")
                answers.append(desk.say(" ".join(["next", *outer])))
                told = run(first, Course(house, course.rows[:number + 1]), tuple(changes))[-1]
                self.assert_says(desk, "hour", str(told.standing[0]))
                for (thing, values), value in zip(house.inner, told.ends):
                    self.assert_says(desk, "what " + thing, value)
                seen[bool(told.doings), bool(told.clashes), told.restless] = True
            if not changes:
                log = log_of(first, course).split("\n")
                self.assertEqual(answers, [row.split("| ", 1)[1] for row in log])
        self.assertGreater(len(seen), 4, seen)


if __name__ == "__main__":
    unittest.main()
