import copy
import unittest

from hearthrules.errors import HearthError, NoRule, NoText
from hearthrules.rules import Rule, read_rule
from hearthrules.sayings import Saying
from oddities import AlikeToAll, Stubborn, odd_things

WHEN = Saying("rain is yes and not hour 1 to 3")
UNLESS = Saying("lamp is on or heat is off")
DO = (("heat", "on"), ("lamp", "off"))
FOUR = (("a", "z"), ("b", "y"), ("c", "x"), ("d", "w"))
PARTS = ("name", "when", "do", "rank", "behind", "unless")
RIGHT = ("eve", WHEN, DO, 3, 2, UNLESS)
TEXT = "eve 3 2 | rain is yes and not hour 1 to 3 | lamp is on or heat is off | heat on, lamp off"


def parts_of(rule):
    return rule.name, rule.when, rule.do, rule.rank, rule.behind, rule.unless


class Case(unittest.TestCase):
    def assert_refused(self, part, *parts, **more):
        with self.assertRaises(NoRule) as caught:
            Rule(*parts, **more)
        self.assertEqual(caught.exception.part, part)
        self.assertIsInstance(caught.exception, HearthError)

    def assert_unread(self, text):
        with self.assertRaises(NoText) as caught:
            read_rule(text)
        self.assertEqual(caught.exception.row, 0)
        self.assertIs(type(caught.exception.row), int)
        self.assertIsInstance(caught.exception, HearthError)


class RuleTest(Case):
    def test_values_by_place(self):
        self.assertEqual(parts_of(Rule(*RIGHT)), RIGHT)

    def test_values_by_keyword_and_left_out(self):
        self.assertEqual(parts_of(Rule("eve", WHEN, DO)), ("eve", WHEN, DO, 0, 0, None))
        self.assertEqual(parts_of(Rule("eve", WHEN, DO, rank=9)), ("eve", WHEN, DO, 9, 0, None))
        self.assertEqual(parts_of(Rule("eve", WHEN, DO, behind=3)), ("eve", WHEN, DO, 0, 3, None))
        self.assertEqual(parts_of(Rule("eve", WHEN, DO, unless=UNLESS)), ("eve", WHEN, DO, 0, 0, UNLESS))
        self.assertEqual(parts_of(Rule("eve", WHEN, DO, unless=UNLESS, behind=2, rank=3)), RIGHT)
        self.assertEqual(parts_of(Rule("eve", WHEN, DO, 3, unless=None)), ("eve", WHEN, DO, 3, 0, None))
        self.assertEqual(parts_of(Rule("eve", WHEN, DO, 3, 1)), ("eve", WHEN, DO, 3, 1, None))

    def test_edges_of_numbers(self):
        for rank in range(10):
            self.assertEqual(Rule("eve", WHEN, DO, rank).rank, rank)
        for behind in range(4):
            self.assertEqual(Rule("eve", WHEN, DO, 0, behind).behind, behind)

    def test_one_to_four_things(self):
        for many in range(1, 5):
            self.assertEqual(Rule("eve", WHEN, FOUR[:many]).do, FOUR[:many])
        self.assertIsInstance(Rule("eve", WHEN, FOUR).do, tuple)

    def test_values_may_be_in_any_order_and_alike(self):
        do = (("a", "z"), ("b", "z"), ("c", "a"))
        self.assertEqual(Rule("rule", WHEN, do).do, do)


class RefusalTest(Case):
    def wrong(self, part, things):
        at = PARTS.index(part)
        for thing in things:
            self.assert_refused(part, *RIGHT[:at], thing, *RIGHT[at + 1:])
            if at > 2:
                self.assert_refused(part, *RIGHT[:3], **{part: thing})

    def test_names(self):
        self.wrong("name", odd_things() + ["is", "hour", "abcdefghi", "eve ", "Eve", "e-e", "", WHEN, 0])

    def test_when(self):
        self.wrong("when", odd_things() + ["rain is yes", str(WHEN), (WHEN,), [WHEN], None, 0, Rule(*RIGHT), Saying])

    def test_do(self):
        self.wrong("do", odd_things() + [
            (), [], list(DO), (["heat", "on"],), (("heat", "on"), ["lamp", "off"]), FOUR + (("e", "v"),),
            (("lamp", "off"), ("heat", "on")), (("lamp", "on"), ("lamp", "on")), (("lamp", "off"), ("lamp", "on")),
            (("a", "z"), ("b", "z"), ("a", "z")), (("a", "z"), ("c", "z"), ("b", "z")), ("heat", "on"), "heat on",
            (("heat",),), (("heat", "on", "off"),), ((),), (("heat", "is"),), (("is", "on"),), (("heat", ""),),
            (("heat", None),), (("heat", 1),), ((1, "on"),), (("heat", ("on",)),), {"heat": "on"}, {("heat", "on")},
            (("heat", Stubborn()),), ((Stubborn(), "on"),), (("heat", AlikeToAll()),), (("Heat", "on"),), "ab", ("ab",)])

    def test_rank(self):
        self.wrong("rank", odd_things() + [-1, 10, 100, True, False, None, "0", "", (0,), [0], b"0"])

    def test_behind(self):
        self.wrong("behind", odd_things() + [-1, 4, 9, True, False, None, "0", "", (0,), [0], b"0"])

    def test_unless(self):
        self.wrong("unless", [thing for thing in odd_things() if thing is not None] + [
            "-", "", "lamp is on", (UNLESS,), [UNLESS], 0, False, Saying])

    def test_the_first_part_that_is_not_so_is_told(self):
        wrong = (None, None, None, None, None, "-")
        for at in range(6):
            self.assert_refused(PARTS[at], *RIGHT[:at], *wrong[at:])
            for other in range(at + 1, 6):
                parts = list(RIGHT)
                parts[at], parts[other] = wrong[at], wrong[other]
                self.assert_refused(PARTS[at], *parts)
        self.assert_refused("rank", "eve", WHEN, DO, unless="-", behind=9, rank=True)

    def test_what_is_handed_in_is_not_changed(self):
        for do in ([("heat", "on")], (["heat", "on"],), {"heat": ["on"]}):
            kept = copy.deepcopy(do)
            self.assert_refused("do", "eve", WHEN, do)
            self.assertEqual(do, kept)


class AlikeTest(Case):
    def test_alike_where_all_parts_are(self):
        one, other = Rule(*RIGHT), Rule("eve", Saying(str(WHEN)), tuple(list(DO)), 3, 2, Saying(str(UNLESS)))
        self.assertIs(one == other, True)
        self.assertIs(one != other, False)
        self.assertIs(Rule("eve", WHEN, DO) == Rule("eve", WHEN, DO, 0, 0, None), True)

    def test_unlike_where_one_part_differs(self):
        others = ("eves", Saying("hour 1"), DO[:1], 4, 1, None)
        for at in range(6):
            other = Rule(*RIGHT[:at], others[at], *RIGHT[at + 1:])
            self.assertIs(Rule(*RIGHT) == other, False)
            self.assertIs(other == Rule(*RIGHT), False)
            self.assertIs(Rule(*RIGHT) != other, True)
        self.assertIs(Rule("eve", WHEN, DO, 3, 2, Saying("hour 1")) == Rule(*RIGHT), False)
        self.assertIs(Rule("eve", WHEN, (("heat", "off"), ("lamp", "off")), 3, 2, UNLESS) == Rule(*RIGHT), False)

    def test_a_rule_and_any_other_thing(self):
        for thing in odd_things() + [RIGHT, TEXT, "eve", Rule, WHEN, AlikeToAll(), Stubborn()]:
            self.assertIs(Rule(*RIGHT) == thing, False)
            self.assertIs(Rule(*RIGHT) != thing, True)


class TextTest(Case):
    def test_repr_and_str(self):
        self.assertEqual(repr(Rule(*RIGHT)), "Rule(eve)")
        self.assertEqual(str(Rule(*RIGHT)), TEXT)
        self.assertEqual(str(Rule("a", Saying("hour 0"), (("lamp", "on"),))), "a 0 0 | hour 0 | - | lamp on")
        self.assertEqual(str(Rule("a", Saying("hour 0"), FOUR, 9, 3)), "a 9 3 | hour 0 | - | a z, b y, c x, d w")

    def test_read_back_to_a_rule_alike(self):
        long = Saying(" and ".join(["lamp is on"] * 10))
        for rule in (Rule(*RIGHT), Rule("a", Saying("hour 0"), FOUR), Rule("rule", long, DO, 9, 3, long),
                     Rule("none", Saying("( not hour 1 )"), (("by", "hand"),), 0, 1)):
            back = read_rule(str(rule))
            self.assertEqual(parts_of(back), parts_of(rule))
            self.assertIs(back == rule, True)
            self.assertEqual(str(back), str(rule))

    def test_each_rank_and_behind(self):
        for rank in range(10):
            for behind in range(4):
                rule = read_rule(f"a {rank} {behind} | hour 0 | - | lamp on")
                self.assertEqual((rule.rank, rule.behind, rule.unless), (rank, behind, None))

    def test_spoilt_texts(self):
        for text in (
                "", " ", "|", " | ", " |  |  | ", "eve", "eve 3 2", "-",
                "eve 3 | hour 0 | - | lamp on", "eve | hour 0 | - | lamp on", "3 2 | hour 0 | - | lamp on",
                "eve 3 2 2 | hour 0 | - | lamp on", "eve 10 2 | hour 0 | - | lamp on", "eve 3 4 | hour 0 | - | lamp on",
                "eve 03 2 | hour 0 | - | lamp on", "eve 3 02 | hour 0 | - | lamp on", "eve -1 2 | hour 0 | - | lamp on",
                "eve +1 2 | hour 0 | - | lamp on", "eve x 2 | hour 0 | - | lamp on", "eve 3 y | hour 0 | - | lamp on",
                "Eve 3 2 | hour 0 | - | lamp on", "is 3 2 | hour 0 | - | lamp on", "abcdefghi 3 2 | hour 0 | - | lamp on",
                "eve 3 2 | - | - | lamp on", "eve 3 2 |  | - | lamp on", "eve 3 2 | hour | - | lamp on",
                "eve 3 2 | hour 0 |  | lamp on", "eve 3 2 | hour 0 | hour | lamp on", "eve 3 2 | hour 0 | None | lamp on",
                "eve 3 2 | hour 0 | -- | lamp on", "eve 3 2 | hour 0 | - - | lamp on", "eve 3 2 | hour 0 | lamp on",
                "eve 3 2 | hour 0 | - | ", "eve 3 2 | hour 0 | - |", "eve 3 2 | hour 0 | -", "eve 3 2 | hour 0 | - | -",
                "eve 3 2 | hour 0 | - | lamp", "eve 3 2 | hour 0 | - | lamp on off", "eve 3 2 | hour 0 | - | lamp is",
                "eve 3 2 | hour 0 | - | lamp on,", "eve 3 2 | hour 0 | - | lamp on, ", "eve 3 2 | hour 0 | - | , lamp on",
                "eve 3 2 | hour 0 | - | lamp on,zoo off", "eve 3 2 | hour 0 | - | lamp on , zoo off",
                "eve 3 2 | hour 0 | - | lamp on zoo off", "eve 3 2 | hour 0 | - | lamp on,  zoo off",
                "eve 3 2 | hour 0 | - | lamp on; zoo off", "eve 3 2 | hour 0 | - | zoo on, lamp off",
                "eve 3 2 | hour 0 | - | lamp on, lamp off", "eve 3 2 | hour 0 | - | lamp on, lamp on",
                "eve 3 2 | hour 0 | - | a a, b a, c a, d a, e a", "eve 3 2 | hour 0 | - | lamp on | ",
                "eve 3 2 | hour 0 | - | lamp on | hour 0", "eve 3 2|hour 0|-|lamp on", "eve 3 2| hour 0 | - | lamp on",
                "eve 3 2 |hour 0 | - | lamp on", "eve 3 2 | hour 0| - | lamp on", "eve 3 2 | hour 0 |- | lamp on",
                "eve 3 2 | hour 0 | -| lamp on", "eve 3 2 | hour 0 | - |lamp on", "eve 3 2 || hour 0 | - | lamp on",
                "eve 3 2  | hour 0 | - | lamp on", "eve 3 2 |  hour 0 | - | lamp on", "eve  3 2 | hour 0 | - | lamp on",
                " eve 3 2 | hour 0 | - | lamp on", "eve 3 2 | hour 0 | - | lamp on ", "eve 3 2 | hour 0 | - | lamp  on",
                "eve 3 2 | hour 0 | - | lamp on\n", "\neve 3 2 | hour 0 | - | lamp on", "eve 3 2\n| hour 0 | - | lamp on",
                "rule eve 3 2 | hour 0 | - | lamp on"):
            self.assert_unread(text)

    def test_each_sign_more_less_or_otherwise(self):
        text = "a 1 0 | hour 2 | lamp is on | fan low, zoo out"
        self.assertEqual(str(read_rule(text)), text)
        for at in range(len(text)):
            for spoilt in (text[:at] + text[at + 1:], text[:at] + "|" + text[at:], text[:at] + " " + text[at:],
                           text[:at] + "A" + text[at + 1:], text[:at] + "\n" + text[at + 1:]):
                try:
                    told = str(read_rule(spoilt))
                except NoText:
                    continue
                self.assertEqual(told, spoilt)
            for sign in "| ,A\n":
                if text[at] != sign and text[at] in "| ,":
                    self.assert_unread(text[:at] + sign + text[at + 1:])
            self.assert_unread(text[:at] + " " + text[at:])
            self.assert_unread(text[:at] + "|" + text[at:])

    def test_what_is_no_text(self):
        for thing in odd_things() + [0, (), [], ("a 0 0", "hour 0", "-", "lamp on"), TEXT.encode(), [TEXT], Rule(*RIGHT)]:
            self.assert_unread(thing)


if __name__ == "__main__":
    unittest.main()
