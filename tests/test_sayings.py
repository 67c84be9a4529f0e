import random
import unittest

from hearthrules.errors import HearthError, LostError, NoSaying, NoThing
from hearthrules.houses import House
from hearthrules.names import is_name
from hearthrules.sayings import Saying, speaks_of
from oddities import AlikeToAll, Stubborn, odd_things

NUMBERS = [str(number) for number in range(100)]
ON = {"lamp": "on", "fan": "low", "heat": "off"}


def first_wrong(text):
    """The number of the first word that can't stand, by one state and a count of brackets; None where all can."""
    words = text.split(" ")
    state, opened = "part", 0
    for at, word in enumerate(words):
        state, opened = step(state, opened, word)
        if state is None or at == 40:
            return at
    return None if state in ("done", "first") and opened == 0 else len(words)


def step(state, opened, word):
    """The state and the open brackets behind a word; the state None where it can't stand."""
    if state == "part":
        if word == "(":
            return ("part" if opened < 6 else None), opened + 1
        known = {"not": "part", "hour": "from"}
        return known.get(word, "is" if is_name(word) else None), opened
    if state == "is":
        return ("value" if word == "is" else None), opened
    if state == "value":
        return ("done" if is_name(word) else None), opened
    if state == "from":
        return ("first" if word in NUMBERS else None), opened
    if state == "till":
        return ("done" if word in NUMBERS else None), opened
    if state == "first" and word == "to":
        return "till", opened
    if word == ")":
        return ("done" if opened > 0 else None), opened - 1
    return ("part" if word in ("and", "or") else None), opened


def by_python(text, hour, things):
    """Whether a saying is so, as Python reads it."""
    words, out, at = text.split(" "), [], 0
    while at < len(words):
        if words[at] == "hour":
            first = int(words[at + 1])
            last = int(words[at + 3]) if words[at + 2:at + 3] == ["to"] else first
            hours = [k % 100 for k in range(first, (last if last >= first else last + 100) + 1)]
            out.append(str(hour in hours))
            at += 4 if words[at + 2:at + 3] == ["to"] else 2
        elif words[at] in ("not", "and", "or", "(", ")"):
            out.append(words[at])
            at += 1
        else:
            out.append(str(things[words[at]] == words[at + 2]))
            at += 3
    return eval(" ".join(out))


def some_saying(chance, depth):
    """A saying made by chance."""
    kind = chance.randrange(7) if depth else chance.randrange(3)
    if kind == 0:
        return chance.choice(["lamp", "fan", "heat"]) + " is " + chance.choice(["on", "off", "low"])
    if kind == 1:
        return f"hour {chance.randrange(12)}"
    if kind == 2:
        return f"hour {chance.randrange(12)} to {chance.randrange(12)}"
    if kind == 3:
        return "( " + some_saying(chance, depth - 1) + " )"
    if kind == 4:
        return "not ( " + some_saying(chance, depth - 1) + " )"
    word = " and " if kind == 5 else " or "
    return word.join([some_saying(chance, depth - 1) for part in range(chance.choice([2, 2, 3]))])


class Case(unittest.TestCase):
    def assert_refused(self, at, text):
        with self.assertRaises(NoSaying) as caught:
            Saying(text)
        self.assertEqual(caught.exception.at, at)
        self.assertIs(type(caught.exception.at), int)
        self.assertIsInstance(caught.exception, HearthError)


class FormTest(Case):
    def test_each_form_stands(self):
        for text in ("lamp is on", "hour 0", "hour 9", "hour 10", "hour 99", "hour 1 to 3", "hour 3 to 1", "hour 0 to 0",
                     "hour 99 to 10", "not lamp is on", "not hour 3", "not hour 3 to 4", "( lamp is on )",
                     "( ( hour 3 ) )", "not ( lamp is on )", "not not lamp is on", "not not ( not hour 1 )",
                     "( not not lamp is on )", "lamp is on and hour 1", "lamp is on or hour 1 to 2 or fan is low",
                     "lamp is on and not fan is low or not ( hour 2 or hour 3 ) and heat is off",
                     "( lamp is on or hour 1 ) and ( fan is low )", "not ( lamp is on and hour 1 ) or hour 2"):
            saying = Saying(text)
            self.assertEqual(str(saying), text)
            self.assertEqual(len(saying), len(text.split(" ")))

    def test_a_word_too_many(self):
        self.assert_refused(3, "lamp is on on")
        self.assert_refused(3, "lamp is on )")
        self.assert_refused(3, "lamp is on (")
        self.assert_refused(3, "lamp is on not")
        self.assert_refused(3, "lamp is on to")
        self.assert_refused(3, "lamp is on is")
        self.assert_refused(2, "hour 3 4")
        self.assert_refused(4, "hour 3 to 4 to")
        self.assert_refused(4, "hour 3 to 4 5")
        self.assert_refused(5, "( lamp is on ) )")
        self.assert_refused(5, "( lamp is on ) lamp")
        self.assert_refused(5, "( lamp is on ) (")
        self.assert_refused(5, "( lamp is on ) not")
        self.assert_refused(4, "lamp is on and and hour 1")
        self.assert_refused(4, "lamp is on or and hour 1")
        self.assert_refused(4, "lamp is on and )")

    def test_a_word_that_lacks_at_the_end(self):
        for text in ("lamp", "lamp is", "hour", "hour 3 to", "not", "not not", "(", "( (", "( lamp is on", "( hour 1",
                     "lamp is on and", "lamp is on or", "lamp is on and not", "not (", "( lamp is on and", "( hour 3 to",
                     "( ( lamp is on )", "lamp is on and ( hour 1 or lamp"):
            self.assert_refused(len(text.split(" ")), text)

    def test_a_word_that_can_not_stand_there(self):
        self.assert_refused(0, "is lamp on")
        self.assert_refused(0, "and lamp is on")
        self.assert_refused(0, "or")
        self.assert_refused(0, "to")
        self.assert_refused(0, ") lamp is on (")
        self.assert_refused(0, "3")
        self.assert_refused(0, "Lamp is on")
        self.assert_refused(0, "abcdefghi is on")
        self.assert_refused(0, "(lamp is on)")
        self.assert_refused(0, "lamp,fan is on")
        self.assert_refused(1, "lamp on")
        self.assert_refused(1, "lamp Is on")
        self.assert_refused(1, "lamp not is on")
        self.assert_refused(0, "lamp\nis on")
        self.assert_refused(1, "lamp is\non")
        self.assert_refused(2, "lamp is not on")
        self.assert_refused(2, "lamp is hour")
        self.assert_refused(2, "lamp is ( on )")
        self.assert_refused(2, "lamp is 3")
        self.assert_refused(2, "lamp is on\n")
        self.assert_refused(2, "lamp is on)")
        self.assert_refused(1, "( )")
        self.assert_refused(1, "not and lamp is on")
        self.assert_refused(1, "not )")
        self.assert_refused(1, "hour is on")
        self.assert_refused(1, "hour to 3")
        self.assert_refused(2, "hour 3 until 4")
        self.assert_refused(3, "hour 3 to lamp")
        self.assert_refused(3, "hour 3 to ( 4 )")
        self.assert_refused(4, "lamp is on or Fan is low")
        self.assert_refused(3, "lamp is on AND fan is low")

    def test_the_first_of_two_wrong_words_is_told(self):
        self.assert_refused(1, "lamp on on fan low )")
        self.assert_refused(2, "lamp is is and and")
        self.assert_refused(0, "A B C")

    def test_numbers(self):
        for number in NUMBERS:
            self.assertEqual(str(Saying("hour " + number)), "hour " + number)
        for word in ("00", "01", "09", "007", "100", "999", "000", "+1", "-1", "1.", "1_0", "a", "1a", "", "0x1", "1\n", "~"):
            self.assert_refused(1, "hour " + word)
            self.assert_refused(1, f"hour {word} to 3")
            self.assert_refused(3, "hour 3 to " + word)

    def test_blanks(self):
        self.assert_refused(0, "")
        self.assert_refused(0, " ")
        self.assert_refused(0, "  ")
        self.assert_refused(0, " lamp is on")
        self.assert_refused(3, "lamp is on ")
        self.assert_refused(1, "lamp  is on")
        self.assert_refused(2, "lamp is  on")
        self.assert_refused(3, "lamp is on  and hour 1")
        self.assert_refused(4, "lamp is on and  hour 1")
        self.assert_refused(1, "hour ")
        self.assert_refused(2, "hour 1 ")
        self.assert_refused(1, "(  lamp is on )")
        self.assert_refused(1, "not ")

    def test_forty_words(self):
        ten = " and ".join(["lamp is on"] * 10)
        self.assertEqual(len(Saying("not " + ten)), 40)
        self.assertEqual(len(Saying("not " * 37 + "lamp is on")), 40)
        self.assertEqual(len(Saying("not " * 38 + "hour 1")), 40)

    def test_forty_one_words_and_more(self):
        ten = " and ".join(["lamp is on"] * 10)
        self.assert_refused(40, "not not " + ten)
        self.assert_refused(40, "not " + ten + " and")
        self.assert_refused(40, "not " + ten + " is")
        self.assert_refused(40, "not " + ten + " ")
        self.assert_refused(40, "not " + ten + " and lamp is on")
        self.assert_refused(40, "not " * 38 + "lamp is on")
        self.assert_refused(40, "not " * 39 + "hour 1")
        self.assert_refused(40, "not " * 40 + "hour 1")
        self.assert_refused(40, "not " * 1000 + "hour 1")
        self.assert_refused(40, ten + " and")
        self.assert_refused(40, ten + " and lamp is on")
        self.assert_refused(39, ten + " lamp is on")
        self.assert_refused(40, " ".join(["not"] * 40))
        self.assert_refused(39, " ".join(["not"] * 39))

    def test_six_and_seven_brackets(self):
        six = "( " * 6 + "lamp is on" + " )" * 6
        self.assertEqual(len(Saying(six)), 15)
        self.assertEqual(len(Saying(six + " and " + six)), 31)
        self.assertEqual(len(Saying("not " + six)), 16)
        self.assert_refused(6, "( " * 7 + "lamp is on" + " )" * 7)
        self.assert_refused(6, "( " * 7 + "Lamp")
        self.assert_refused(6, "( " * 6 + "(")
        self.assert_refused(7, "( not " + "( " * 6)
        self.assert_refused(22, six + " or " + "( " * 7)
        self.assert_refused(10, "( " * 6 + "lamp is on and ( hour 1 )" + " )" * 6)
        self.assertEqual(len(Saying("( " * 5 + "lamp is on and ( hour 1 )" + " )" * 5)), 18)
        self.assertEqual(len(Saying("( " * 6 + "lamp is on" + " ) and ( hour 1 )" + " )" * 5)), 20)

    def test_what_is_no_text(self):
        for thing in odd_things() + [0, 1, (), [], {}, ["lamp", "is", "on"], b"lamp is on", Saying("lamp is on")]:
            if not isinstance(thing, str):
                self.assert_refused(0, thing)

    def test_words_of_rows_are_names(self):
        for name in ("rule", "none", "by", "hand", "outer", "inner", "hours", "clash", "restless", "free", "fail", "so"):
            saying = Saying(f"{name} is {name} and not lamp is {name}")
            self.assertEqual(saying.things(), tuple(sorted([name, "lamp"])))
            self.assertIs(saying.so(0, {name: name, "lamp": "on"}), True)
            self.assertIs(saying.so(0, {name: name, "lamp": name}), False)

    def test_by_chance_as_another_reading_has_it(self):
        chance = random.Random(5)
        words = ["lamp", "is", "on", "hour", "3", "12", "to", "not", "and", "or", "(", ")", "07", "", "Fan"]
        told = set()
        for turn in range(6000):
            parts = some_saying(chance, 3).split(" ")
            for change in range(chance.randrange(3)):
                at = chance.randrange(len(parts))
                parts[at:at + chance.randrange(2)] = chance.choices(words, k=chance.randrange(2))
                parts = parts or [""]
            text = " ".join(parts)
            wrong = first_wrong(text)
            told.add(wrong)
            if wrong is None:
                self.assertEqual(len(Saying(text)), len(parts))
            else:
                self.assert_refused(wrong, text)
        self.assertTrue({None, 0, 1, 2, 3, 4, 40} <= told)


class SoTest(Case):
    def assert_so(self, truth, text, hour=0, things=None):
        self.assertIs(Saying(text).so(hour, ON if things is None else things), truth, (text, hour))

    def test_things(self):
        self.assert_so(True, "lamp is on")
        self.assert_so(False, "lamp is off")
        self.assert_so(False, "not lamp is on")
        self.assert_so(True, "not not lamp is on")
        self.assert_so(False, "not not not lamp is on")

    def test_one_hour(self):
        self.assertEqual([hour for hour in range(6) if Saying("hour 3").so(hour, {})], [3])
        self.assertEqual([hour for hour in range(20) if Saying("hour 12").so(hour, {})], [12])

    def test_hours_from_one_on_to_another(self):
        def hours(text):
            return [hour for hour in range(6) if Saying(text).so(hour, {})]
        self.assertEqual(hours("hour 1 to 3"), [1, 2, 3])
        self.assertEqual(hours("hour 2 to 2"), [2])
        self.assertEqual(hours("hour 0 to 5"), [0, 1, 2, 3, 4, 5])
        self.assertEqual(hours("hour 4 to 1"), [0, 1, 4, 5])
        self.assertEqual(hours("hour 1 to 0"), [0, 1, 2, 3, 4, 5])
        self.assertEqual(hours("hour 5 to 0"), [0, 5])
        self.assertEqual(hours("not hour 4 to 1"), [2, 3])
        self.assertEqual(hours("hour 3 to 99"), [3, 4, 5])
        self.assertEqual(hours("hour 10 to 2"), [0, 1, 2])

    def test_not_binds_closest_then_and(self):
        self.assert_so(True, "lamp is on or lamp is on and lamp is off")
        self.assert_so(False, "( lamp is on or lamp is on ) and lamp is off")
        self.assert_so(True, "lamp is off and lamp is off or lamp is on")
        self.assert_so(False, "lamp is off and ( lamp is off or lamp is on )")
        self.assert_so(True, "not lamp is off or lamp is on")
        self.assert_so(False, "not ( lamp is off or lamp is on )")
        self.assert_so(False, "not lamp is on and lamp is off")
        self.assert_so(True, "not ( lamp is on and lamp is off )")
        self.assert_so(True, "not lamp is on or lamp is on")
        self.assert_so(True, "not ( not lamp is on )")

    def test_brackets_that_change_nothing(self):
        self.assert_so(True, "( lamp is on )")
        self.assert_so(True, "( ( ( ( ( ( lamp is on ) ) ) ) ) )")
        self.assert_so(True, "( not ( lamp is off ) )")
        self.assert_so(True, "( hour 2 ) or ( ( lamp is on ) and ( fan is low ) )")

    def test_many_parts(self):
        self.assert_so(True, "lamp is on and fan is low and heat is off")
        self.assert_so(False, "lamp is on and fan is low and heat is on")
        self.assert_so(True, "lamp is off or fan is on or heat is off")
        self.assert_so(False, "lamp is off or fan is on or heat is on")

    def test_a_name_that_is_not_there(self):
        for text, name, things in (
                ("lamp is on", "lamp", {}),
                ("lamp is on or fan is low", "fan", {"lamp": "on"}),
                ("fan is low and lamp is on", "lamp", {"fan": "high"}),
                ("zoo is on or ant is on", "zoo", {}),
                ("ant is on or zoo is on", "ant", {"lamp": "on"}),
                ("lamp is on or zoo is on or ant is on or zoo is off", "zoo", {"lamp": "on"}),
                ("hour 0 or not ( hour 1 and zoo is on )", "zoo", {"lamp": "on", "on": "zoo"}),
                ("lamp is on and not lamp is on and ant is on", "ant", {"lamp": "on"})):
            for hour in range(3):
                kept = dict(things)
                with self.assertRaises(NoThing) as caught:
                    Saying(text).so(hour, things)
                self.assertEqual(caught.exception.name, name)
                self.assertIsInstance(caught.exception, LostError)
                self.assertEqual(things, kept)

    def test_more_keys_in_any_order_and_the_dict_unchanged(self):
        saying = Saying("lamp is on and not fan is high")
        rows = [("zoo", "ant"), ("fan", "low"), ("lamp", "on"), ("ant", "on")]
        for order in (rows, rows[::-1], rows[2:] + rows[:2]):
            things = dict(order)
            self.assertIs(saying.so(1, things), True)
            self.assertEqual(list(things.items()), order)
        self.assertIs(saying.so(1, dict(rows + [("fan", "high")])), False)

    def test_by_chance_as_python_reads_it(self):
        chance = random.Random(6)
        for turn in range(2000):
            text = some_saying(chance, 3)
            if first_wrong(text) is None:
                things = {name: chance.choice(["on", "off", "low"]) for name in ON}
                hour = chance.randrange(12)
                self.assert_so(by_python(text, hour, things), text, hour, things)


class ThingsTest(Case):
    def test_rising_each_once(self):
        self.assertEqual(Saying("hour 3").things(), ())
        self.assertEqual(Saying("lamp is on").things(), ("lamp",))
        self.assertEqual(Saying("lamp is on or fan is low and lamp is off or ( not heat is on )").things(),
                         ("fan", "heat", "lamp"))
        self.assertEqual(Saying("b is a and a is b and c is zoo").things(), ("a", "b", "c"))
        self.assertIsInstance(Saying("hour 3").things(), tuple)


class AlikeTest(Case):
    def test_alike_where_texts_are(self):
        self.assertIs(Saying("lamp is on") == Saying("lamp is on"), True)
        self.assertIs(Saying("lamp is on") != Saying("lamp is on"), False)
        for text in ("lamp is off", "( lamp is on )", "not not lamp is on", "lamp is on or lamp is on"):
            self.assertIs(Saying("lamp is on") == Saying(text), False)
            self.assertIs(Saying("lamp is on") != Saying(text), True)

    def test_a_saying_and_any_other_thing(self):
        for thing in odd_things() + ["lamp is on", b"lamp is on", Saying, 3, AlikeToAll(), Stubborn()]:
            self.assertIs(Saying("lamp is on") == thing, False)
            self.assertIs(Saying("lamp is on") != thing, True)

    def test_texts_and_truth(self):
        saying = Saying("not ( lamp is on )")
        self.assertEqual((repr(saying), str(saying), len(saying)), ("Saying(not ( lamp is on ))", "not ( lamp is on )", 6))
        self.assertIs(bool(saying), True)
        self.assertEqual(len(Saying("hour 1")), 2)


class SpeaksOfTest(Case):
    def test_of_the_house_alone(self):
        house = House((("rain", ("no", "yes")),), (("lamp", ("off", "on")),), 3)
        for text in ("rain is no", "lamp is on", "hour 0", "hour 2", "hour 2 to 0", "not ( rain is yes and lamp is off )"):
            self.assertIs(speaks_of(Saying(text), house), True, text)
        for text in ("rain is on", "lamp is yes", "fan is on", "on is lamp", "hour 3", "hour 0 to 3", "hour 3 to 0",
                     "hour 99", "rain is no or fan is on", "lamp is on and not ( hour 1 or hour 2 to 10 )"):
            self.assertIs(speaks_of(Saying(text), house), False, text)


if __name__ == "__main__":
    unittest.main()
