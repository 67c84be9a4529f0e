import copy
import itertools
import random
import unittest

from hearthrules.books import Book
from hearthrules.errors import HearthError, LostError, NoOuter, NoStanding, NoThing
from hearthrules.houses import House, all_outer
from hearthrules.moments import Moment, first_standing, is_standing, moment
from hearthrules.rules import Rule, read_rule
from hearthrules.sayings import Saying
from oddities import AlikeToAll, Stubborn, odd_things

HOUSE = House((("rain", ("no", "yes")),), (("fan", ("off", "low", "high")), ("heat", ("off", "on")), ("lamp", ("off", "on"))))
BARE = House((), (("heat", ("off", "on")), ("lamp", ("off", "on"))), 2)
FIELDS = ("hour", "outer", "doings", "clashes", "restless", "ends", "standing")


def book_of(*texts, house=HOUSE):
    return Book(house, tuple(read_rule(text) for text in texts))


def told(a_moment):
    return tuple(getattr(a_moment, field) for field in FIELDS)


def by_another_reading(book, standing, outer, held=(), failing=()):
    """The values of a moment, read off points 9 and 10 with dicts."""
    hour, ends, counts = standing
    names = [name for name, values in book.house.inner]
    world = dict(zip([name for name, values in book.house.outer], outer))
    inner = dict(zip(names, ends))
    count = {rule.name: number for rule, number in zip(book.rules, counts)}

    def stirs(rule):
        things = {**world, **inner}
        return rule.when.so(hour, things) and not (rule.unless and rule.unless.so(hour, things))

    doings, clashes, had, restless = [], set(), [dict(inner)], False
    for number in itertools.count():
        aims = {}
        for rule in book.rules:
            if stirs(rule) and count[rule.name] == rule.behind:
                for thing, value in rule.do:
                    aims.setdefault(thing, {}).setdefault(rule.rank, []).append((value, rule.name))
        fresh = {}
        for thing in names:
            best = aims.get(thing, {0: []})
            best = best[max(best)]
            rules = tuple(sorted(name for value, name in best))
            if len({value for value, name in best}) > 1:
                clashes.add((thing, rules))
            elif best and best[0][0] != inner[thing] and thing not in tuple(held) + tuple(failing):
                fresh[thing] = best[0][0]
                doings.append((number, thing, best[0][0], rules))
        inner.update(fresh)
        restless = bool(fresh) and inner in had
        if restless or not fresh:
            break
        had.append(dict(inner))
    behind = tuple(min(count[rule.name] + 1, rule.behind) if stirs(rule) else 0 for rule in book.rules)
    last = tuple(inner[name] for name in names)
    return (hour, outer, tuple(doings), tuple(sorted(clashes)), restless, last,
            ((hour + 1) % book.house.hours, last, behind))


def some_book(chance):
    """A book made by chance, of few values so that its rules meet."""
    house = House((("rain", ("no", "yes")),)[:chance.randrange(2)],
                  (("a", ("x", "y", "z")), ("b", ("x", "y")), ("c", ("x", "y")))[:chance.randrange(1, 4)], chance.randrange(1, 4))
    return Book(house, tuple(some_rule(chance, house, name) for name in "pqrstu"[:chance.randrange(7)]))


def some_part(chance, house):
    name, values = chance.choice(house.outer + house.inner)
    return chance.choice([f"{name} is {chance.choice(values)}", f"not {name} is {chance.choice(values)}",
                          f"hour {chance.randrange(house.hours)} to {chance.randrange(house.hours)}"])


def some_rule(chance, house, name):
    do = tuple((thing, chance.choice(values)) for thing, values in house.inner if chance.randrange(2))
    do = do or ((house.inner[0][0], house.inner[0][1][1]),)
    when = Saying(chance.choice([" and ", " or "]).join(some_part(chance, house) for part in range(chance.randrange(1, 3))))
    unless = Saying(some_part(chance, house)) if chance.randrange(3) == 0 else None
    return Rule(name, when, do, chance.choice([0, 0, 1, 9]), chance.choice([0, 0, 0, 1, 2, 3]), unless)


def repr_of_row(thing):
    """The text of a tuple of texts; none of what can't be shown."""
    return repr(thing) if isinstance(thing, tuple) and all(isinstance(part, str) for part in thing) else ""


def all_standings(book):
    return list(itertools.product(range(book.house.hours), itertools.product(*[values for name, values in book.house.inner]),
                                  itertools.product(*[range(rule.behind + 1) for rule in book.rules])))


class FirstStandingTest(unittest.TestCase):
    def test_hour_first_values_and_noughts(self):
        self.assertEqual(first_standing(Book(HOUSE)), (0, ("off", "off", "off"), ()))
        book = book_of("b 0 3 | hour 0 | - | lamp on", "a 0 0 | hour 0 | - | lamp on")
        self.assertEqual(first_standing(book), (0, ("off", "off", "off"), (0, 0)))
        standing = first_standing(Book(House((), (("lamp", ("on", "off")),), 1)))
        self.assertEqual(standing, (0, ("on",), ()))
        self.assertEqual([type(part) for part in standing], [int, tuple, tuple])
        self.assertIsInstance(standing, tuple)


class RoundsTest(unittest.TestCase):
    def assert_moment(self, book, standing, outer, doings, clashes, restless, ends, behind, **more):
        got = moment(book, standing, outer, **more)
        self.assertEqual(told(got), (standing[0], outer, doings, clashes, restless, ends, behind))

    def test_no_rule(self):
        self.assert_moment(Book(HOUSE), (0, ("low", "on", "off"), ()), ("yes",), (), (), False, ("low", "on", "off"),
                           (1, ("low", "on", "off"), ()))

    def test_one_rule(self):
        book = book_of("wet 0 0 | rain is yes | - | fan high, lamp on")
        self.assert_moment(book, (0, ("off", "off", "off"), (0,)), ("yes",),
                           ((0, "fan", "high", ("wet",)), (0, "lamp", "on", ("wet",))), (), False, ("high", "off", "on"),
                           (1, ("high", "off", "on"), (0,)))
        self.assert_moment(book, (2, ("off", "off", "off"), (0,)), ("no",), (), (), False, ("off", "off", "off"),
                           (3, ("off", "off", "off"), (0,)))

    def test_a_value_that_a_thing_has_is_no_doing(self):
        book = book_of("wet 0 0 | rain is yes | - | fan high, lamp on")
        self.assert_moment(book, (0, ("high", "off", "off"), (0,)), ("yes",), ((0, "lamp", "on", ("wet",)),), (), False,
                           ("high", "off", "on"), (1, ("high", "off", "on"), (0,)))

    def test_the_last_hour_to_the_first(self):
        for hour in range(4):
            got = moment(Book(HOUSE), (hour, ("off", "off", "off"), ()), ("no",))
            self.assertEqual((got.hour, got.standing[0]), (hour, (hour + 1) % 4))
        one = Book(House((), HOUSE.inner, 1))
        self.assertEqual(moment(one, first_standing(one), ()).standing, first_standing(one))

    def test_all_is_so_at_the_hour_of_the_moment(self):
        book = book_of("eve 0 0 | hour 3 | - | lamp on", "late 0 1 | hour 3 | - | fan low")
        at_three = moment(book, (3, ("off", "off", "off"), (0, 0)), ("no",))
        self.assertEqual(at_three.doings, ((0, "lamp", "on", ("eve",)),))
        self.assertEqual(at_three.standing, (0, ("off", "off", "on"), (0, 1)))
        at_two = moment(book, (2, ("off", "off", "off"), (0, 0)), ("no",))
        self.assertEqual((at_two.doings, at_two.standing), ((), (3, ("off", "off", "off"), (0, 0))))
        at_nought = moment(book, (0, ("off", "off", "off"), (0, 1)), ("no",))
        self.assertEqual((at_nought.doings, at_nought.standing), ((), (1, ("off", "off", "off"), (0, 0))))

    def test_rules_of_one_rank_that_pull_to_one_value(self):
        book = book_of("b 2 0 | hour 0 | - | lamp on", "a 2 0 | hour 0 | - | lamp on", "c 1 0 | hour 0 | - | lamp on",
                       "d 1 0 | hour 0 | - | lamp off")
        self.assert_moment(book, (0, ("off", "off", "off"), (0,) * 4), ("no",), ((0, "lamp", "on", ("a", "b")),), (), False,
                           ("off", "off", "on"), (1, ("off", "off", "on"), (0,) * 4))

    def test_rules_of_one_rank_that_pull_to_two_values(self):
        book = book_of("b 2 0 | hour 0 | - | fan low", "a 2 0 | hour 0 | - | fan high, lamp on", "c 2 0 | hour 0 | - | fan low",
                       "d 1 0 | hour 0 | - | fan low")
        self.assert_moment(book, (0, ("off", "off", "off"), (0,) * 4), ("no",), ((0, "lamp", "on", ("a",)),),
                           (("fan", ("a", "b", "c")),), False, ("off", "off", "on"), (1, ("off", "off", "on"), (0,) * 4))

    def test_rules_clash_over_a_value_that_the_thing_has(self):
        book = book_of("a 0 0 | hour 0 | - | lamp on", "b 0 0 | hour 0 | - | lamp off")
        for value in ("off", "on"):
            self.assert_moment(book, (0, ("off", "off", value), (0, 0)), ("no",), (), (("lamp", ("a", "b")),), False,
                               ("off", "off", value), (1, ("off", "off", value), (0, 0)))

    def test_the_greatest_rank_counts(self):
        book = book_of("a 0 0 | hour 0 | - | heat on, lamp on", "b 9 0 | hour 0 | - | lamp off",
                       "c 0 0 | hour 0 | - | lamp off")
        self.assert_moment(book, (0, ("off", "off", "off"), (0, 0, 0)), ("no",), ((0, "heat", "on", ("a",)),), (), False,
                           ("off", "on", "off"), (1, ("off", "on", "off"), (0, 0, 0)))

    def test_rank_counts_thing_by_thing(self):
        book = book_of("a 1 0 | hour 0 | - | fan low, lamp on", "b 2 0 | hour 0 | - | heat on, lamp off",
                       "c 0 0 | hour 0 | - | fan high, heat off")
        self.assertEqual(moment(book, (0, ("off", "off", "on"), (0, 0, 0)), ("no",)).doings,
                         ((0, "fan", "low", ("a",)), (0, "heat", "on", ("b",)), (0, "lamp", "off", ("b",))))

    def test_a_rule_that_is_not_due_does_not_count(self):
        book = book_of("a 9 0 | hour 1 | - | lamp off", "b 9 1 | hour 0 | - | lamp off", "c 0 0 | hour 0 | - | lamp on",
                       "d 9 0 | hour 0 | rain is no | lamp off")
        self.assertEqual(moment(book, first_standing(book), ("no",)).doings, ((0, "lamp", "on", ("c",)),))

    def test_a_chain_over_several_rounds(self):
        book = book_of("a 0 0 | rain is yes | - | lamp on", "b 0 0 | lamp is on | - | heat on", "c 0 0 | heat is on | - | fan low",
                       "d 1 0 | fan is low and heat is on | - | fan high")
        self.assert_moment(book, (1, ("off", "off", "off"), (0,) * 4), ("yes",), (
            (0, "lamp", "on", ("a",)), (1, "heat", "on", ("b",)), (2, "fan", "low", ("c",)), (3, "fan", "high", ("d",)),
            (4, "fan", "low", ("c",))), (), True, ("low", "on", "on"), (2, ("low", "on", "on"), (0,) * 4))
        self.assert_moment(book.without("d"), (1, ("off", "off", "off"), (0,) * 3), ("yes",), (
            (0, "lamp", "on", ("a",)), (1, "heat", "on", ("b",)), (2, "fan", "low", ("c",))), (), False, ("low", "on", "on"),
            (2, ("low", "on", "on"), (0,) * 3))

    def test_all_things_are_set_at_once(self):
        book = book_of("a 0 0 | lamp is off and heat is off | - | heat on, lamp on", "b 0 0 | lamp is on | - | fan low")
        self.assertEqual(moment(book, (0, ("off", "off", "off"), (0, 0)), ("no",)).doings,
                         ((0, "heat", "on", ("a",)), (0, "lamp", "on", ("a",)), (1, "fan", "low", ("b",))))
        swap = book_of("a 0 0 | lamp is on and heat is off | - | heat on", "b 0 0 | heat is off and lamp is on | - | lamp off")
        self.assertEqual(moment(swap, (0, ("off", "off", "on"), (0, 0)), ("no",)).ends, ("off", "on", "off"))

    def test_clashes_of_several_rounds_each_once(self):
        book = book_of("a 0 0 | hour 0 | - | fan low", "b 0 0 | hour 0 | - | fan high", "c 0 0 | lamp is on | - | fan off",
                       "d 0 0 | hour 0 | - | lamp on", "e 1 0 | heat is on | - | fan off", "f 0 0 | lamp is on | - | heat on")
        got = moment(book, first_standing(book), ("no",))
        self.assertEqual(got.clashes, (("fan", ("a", "b")), ("fan", ("a", "b", "c"))))
        self.assertEqual(got.doings, ((0, "lamp", "on", ("d",)), (1, "heat", "on", ("f",))))
        self.assertIs(got.restless, False)

    def test_clashes_over_several_things(self):
        book = book_of("z 0 0 | hour 0 | - | heat on, lamp on", "a 0 0 | hour 0 | - | heat off, lamp off")
        self.assertEqual(moment(book, first_standing(book), ("no",)).clashes, (("heat", ("a", "z")), ("lamp", ("a", "z"))))


class BehindTest(unittest.TestCase):
    def ends(self, book, outers):
        standing, lamps, counts = first_standing(book), [], []
        for outer in outers:
            got = moment(book, standing, (outer,))
            standing = got.standing
            lamps.append(got.ends[2])
            counts.append(standing[2][0])
        return lamps, counts

    def test_behind_nought_to_three(self):
        for behind in range(4):
            book = book_of(f"wet 0 {behind} | rain is yes | - | lamp on")
            lamps, counts = self.ends(book, ["yes"] * 5)
            self.assertEqual(lamps, ["off"] * behind + ["on"] * (5 - behind))
            self.assertEqual(counts, [min(at + 1, behind) for at in range(5)])

    def test_the_count_begins_anew(self):
        book = book_of("wet 0 2 | rain is yes | - | lamp on")
        lamps, counts = self.ends(book, ["yes", "no", "yes", "yes", "no", "yes", "yes", "yes"])
        self.assertEqual(lamps, ["off"] * 7 + ["on"])
        self.assertEqual(counts, [1, 0, 1, 2, 0, 1, 2, 2])

    def test_due_wants_it_so_in_this_moment_too(self):
        book = book_of("wet 0 1 | rain is yes | - | lamp on")
        self.assertEqual(moment(book, (0, ("off", "off", "off"), (1,)), ("no",)).doings, ())

    def test_unless_stops_both_the_doing_and_the_count(self):
        book = book_of("wet 0 2 | rain is yes | hour 2 | lamp on")
        lamps, counts = self.ends(book, ["yes"] * 7)
        self.assertEqual(counts, [1, 2, 0, 1, 2, 2, 0])
        self.assertEqual(lamps, ["off"] * 5 + ["on", "on"])

    def test_counts_go_by_the_values_at_the_end(self):
        book = book_of("a 0 0 | rain is yes | - | lamp on", "b 0 2 | lamp is on | - | heat on", "c 0 2 | lamp is off | - | heat on",
                       "d 0 2 | rain is yes | lamp is on | heat on")
        got = moment(book, first_standing(book), ("yes",))
        self.assertEqual(got.standing, (1, ("off", "off", "on"), (0, 1, 0, 0)))

    def test_a_rule_may_undo_what_makes_it_due(self):
        book = book_of("off 0 1 | lamp is on | - | lamp off", "on 1 0 | rain is yes and hour 0 | - | lamp on")
        first = moment(book, first_standing(book), ("yes",))
        self.assertEqual((first.ends, first.standing[2]), (("off", "off", "on"), (1, 0)))
        second = moment(book, first.standing, ("yes",))
        self.assertEqual((second.doings, second.standing[2]), (((0, "lamp", "off", ("off",)),), (0, 0)))

    def test_counts_do_not_grow_within_a_moment(self):
        book = book_of("a 0 1 | lamp is on | - | heat on", "b 0 0 | hour 0 | - | lamp on", "c 0 0 | lamp is on | - | fan low")
        self.assertEqual(moment(book, first_standing(book), ("no",)).doings,
                         ((0, "lamp", "on", ("b",)), (1, "fan", "low", ("c",))))


class RestlessTest(unittest.TestCase):
    def test_back_to_the_values_ahead_of_the_first_round(self):
        book = book_of("a 0 0 | lamp is off | - | lamp on", "b 0 0 | lamp is on | - | lamp off")
        for value, doings in (("off", ((0, "lamp", "on", ("a",)), (1, "lamp", "off", ("b",)))),
                              ("on", ((0, "lamp", "off", ("b",)), (1, "lamp", "on", ("a",))))):
            got = moment(book, (0, ("off", "off", value), (0, 0)), ("no",))
            self.assertEqual(told(got), (0, ("no",), doings, (), True, ("off", "off", value), (1, ("off", "off", value), (0, 0))))
            self.assertIs(got.restless, True)

    def test_back_to_the_values_ahead_of_a_later_round(self):
        book = book_of("a 0 0 | fan is off | - | fan low", "b 0 0 | fan is low | - | fan high", "c 0 0 | fan is high | - | fan low")
        got = moment(book, first_standing(book), ("no",))
        self.assertEqual(got.doings, ((0, "fan", "low", ("a",)), (1, "fan", "high", ("b",)), (2, "fan", "low", ("c",))))
        self.assertEqual((got.restless, got.ends), (True, ("low", "off", "off")))

    def test_one_thing_alone_that_comes_back_is_not_restless(self):
        book = book_of("a 0 0 | lamp is off and heat is off | - | lamp on", "b 0 0 | lamp is on | - | heat on, lamp off")
        got = moment(book, first_standing(book), ("no",))
        self.assertEqual((got.restless, got.ends, len(got)), (False, ("off", "on", "off"), 3))

    def test_counts_of_a_restless_moment_go_by_its_end(self):
        book = book_of("a 0 0 | lamp is off | - | lamp on", "b 0 0 | lamp is on | - | lamp off", "c 0 1 | lamp is off | - | fan low",
                       "d 0 1 | lamp is on | - | fan low")
        self.assertEqual(moment(book, first_standing(book), ("no",)).standing[2], (0, 0, 1, 0))

    def test_clashes_in_a_restless_moment(self):
        book = book_of("a 0 0 | lamp is off | - | heat on, lamp on", "b 0 0 | lamp is on | - | lamp off",
                       "c 0 0 | lamp is off | - | heat off")
        got = moment(book, first_standing(book), ("no",))
        self.assertEqual((got.restless, got.clashes), (True, (("heat", ("a", "c")),)))

    def test_held_things_bring_rest(self):
        book = book_of("a 0 0 | lamp is off | - | lamp on", "b 0 0 | lamp is on | - | lamp off")
        self.assertIs(moment(book, first_standing(book), ("no",), ("lamp",)).restless, False)


class HandsTest(unittest.TestCase):
    BOOK = book_of("a 0 0 | rain is yes | - | fan low, lamp on", "b 0 0 | lamp is on | - | heat on")

    def test_held_and_failing_things_stay(self):
        start = first_standing(self.BOOK)
        free = moment(self.BOOK, start, ("yes",))
        self.assertEqual(free.ends, ("low", "on", "on"))
        for got in (moment(self.BOOK, start, ("yes",), ("lamp",)), moment(self.BOOK, start, ("yes",), held=("lamp",)),
                    moment(self.BOOK, start, ("yes",), None, ("lamp",)), moment(self.BOOK, start, ("yes",), failing=("lamp",)),
                    moment(self.BOOK, start, ("yes",), ("lamp",), ("lamp",)),
                    moment(self.BOOK, start, ("yes",), failing=("lamp",), held=())):
            self.assertEqual(told(got), (0, ("yes",), ((0, "fan", "low", ("a",)),), (), False, ("low", "off", "off"),
                                         (1, ("low", "off", "off"), (0, 0))))
        both = moment(self.BOOK, start, ("yes",), ("fan",), ("heat", "lamp"))
        self.assertEqual((both.doings, both.ends), ((), ("off", "off", "off")))

    def test_none_and_the_empty_row(self):
        start = first_standing(self.BOOK)
        free = moment(self.BOOK, start, ("yes",))
        for got in (moment(self.BOOK, start, ("yes",), None, None), moment(self.BOOK, start, ("yes",), (), ()),
                    moment(self.BOOK, start, ("yes",), held=None, failing=None), moment(self.BOOK, start, ("yes",), ())):
            self.assertIs(got == free, True)

    def test_they_clash_all_the_same(self):
        book = book_of("a 0 0 | hour 0 | - | lamp on", "b 0 0 | hour 0 | - | lamp off")
        start = first_standing(book)
        for more in ({"held": ("lamp",)}, {"failing": ("lamp",)}, {"held": ("lamp",), "failing": ("lamp",)}):
            self.assertEqual(moment(book, start, ("no",), **more).clashes, (("lamp", ("a", "b")),))

    def test_a_held_thing_still_tells_what_is_so(self):
        got = moment(self.BOOK, (0, ("off", "off", "on"), (0, 0)), ("no",), ("lamp",))
        self.assertEqual(got.doings, ((0, "heat", "on", ("b",)),))


class RefusalTest(unittest.TestCase):
    BOOK = book_of("a 0 2 | rain is yes | - | lamp on", "b 0 0 | hour 0 | - | heat on")
    START = (0, ("off", "off", "off"), (0, 0))

    def assert_refused(self, kind, *parts, **more):
        with self.assertRaises(kind) as caught:
            moment(*parts, **more)
        self.assertIs(type(caught.exception), kind)
        self.assertIsInstance(caught.exception, LostError if kind is NoThing else HearthError)
        return caught.exception

    def wrong_standings(self):
        ends, counts = ("off", "off", "off"), (0, 0)
        hours = [-1, 4, 100, True, False, None, "0", (0,), Stubborn(), AlikeToAll()]
        rows = [(), ("off",), ("off", "off"), ("off",) * 4, list(ends), "off", None, ("off", "off", "low"), ("no", "off", "off"),
                ("off", "off", None), (Stubborn(), "off", "off"), (AlikeToAll(),) * 3, ("off", "off", ("off",)), {"off": 1}]
        numbers = [(), (0,), (0, 0, 0), [0, 0], None, 0, (3, 0), (0, 1), (-1, 0), (True, 0), (0, False), ("0", 0), (0, None),
                   (Stubborn(), 0), (AlikeToAll(), AlikeToAll()), {0: 0}]
        return ([(hour, ends, counts) for hour in hours] + [(0, row, counts) for row in rows]
                + [(0, ends, row) for row in numbers]
                + [[0, ends, counts], (0, ends), (0, ends, counts, ()), (ends, 0, counts), (0, counts, ends), (), ("abc",), "abc"]
                + odd_things())

    def test_standings(self):
        for standing in self.wrong_standings():
            kept = standing if not isinstance(standing, list) else copy.copy(standing)
            self.assert_refused(NoStanding, self.BOOK, standing, ("no",))
            self.assertIs(is_standing(self.BOOK, standing), False)
            if isinstance(standing, list):
                self.assertEqual(standing, kept)

    def test_each_standing_of_a_book_is_one(self):
        for standing in all_standings(self.BOOK):
            self.assertIs(is_standing(self.BOOK, standing), True)
            self.assertEqual(moment(self.BOOK, standing, ("no",)).hour, standing[0])
        self.assertEqual(len(all_standings(self.BOOK)), self.BOOK.size())

    def test_a_standing_of_another_book(self):
        self.assert_refused(NoStanding, Book(HOUSE), self.START, ("no",))
        self.assert_refused(NoStanding, self.BOOK, first_standing(Book(HOUSE)), ("no",))

    def test_outer_values(self):
        for outer in [(), ("no", "no"), ("on",), ["no"], "no", ("rain",), (None,), (True,), {"no": 1}, {"no"}, (("no",),),
                      (("rain", "no"),), ("No",), (Stubborn(),), (AlikeToAll(),)] + odd_things():
            self.assert_refused(NoOuter, self.BOOK, self.START, outer)
        book = Book(BARE)
        for outer in [("no",), [], None, "", {}, 0]:
            self.assert_refused(NoOuter, book, first_standing(book), outer)
        self.assertEqual(moment(book, first_standing(book), ()).outer, ())

    def test_held_and_failing(self):
        wrong = [("rain",), ("lamp", "lamp"), ("lamp", "heat"), ["lamp"], "lamp", "", [], {}, 0, ("zoo",), ("lamp", None), (None,),
                 ("fan", "lamp", "heat"), ("heat", "lamp", "rain"), (("lamp", "on"),), ("on",), {"lamp"}, ("Lamp",)]
        odd = [thing for thing in odd_things() if thing is not None and repr_of_row(thing) != "('lamp',)"]
        self.assertLess(len(odd), len(odd_things()) - 1)
        for names in wrong + odd:
            error = self.assert_refused(NoThing, self.BOOK, self.START, ("no",), names)
            self.assertIs(error.name, names)
            self.assertIs(self.assert_refused(NoThing, self.BOOK, self.START, ("no",), held=names).name, names)
            self.assertIs(self.assert_refused(NoThing, self.BOOK, self.START, ("no",), None, names).name, names)
            self.assertIs(self.assert_refused(NoThing, self.BOOK, self.START, ("no",), failing=names).name, names)

    def test_two_wrong_at_once(self):
        self.assert_refused(NoStanding, self.BOOK, None, None, ["x"], ["y"])
        self.assert_refused(NoStanding, self.BOOK, (), ("no",), ["x"])
        self.assert_refused(NoStanding, self.BOOK, (), ("on",))
        self.assert_refused(NoOuter, self.BOOK, self.START, None, ["x"], ["y"])
        self.assert_refused(NoOuter, self.BOOK, self.START, (), failing="y")
        self.assertEqual(self.assert_refused(NoThing, self.BOOK, self.START, ("no",), ["x"], ["y"]).name, ["x"])
        self.assertEqual(self.assert_refused(NoThing, self.BOOK, self.START, ("no",), failing=["y"], held=["x"]).name, ["x"])
        self.assertEqual(self.assert_refused(NoThing, self.BOOK, self.START, ("no",), ("lamp",), ("x",)).name, ("x",))


class MomentTest(unittest.TestCase):
    BOOK = book_of("a 0 1 | rain is yes | - | lamp on", "b 0 0 | hour 0 | - | heat on")

    def test_kinds_of_values(self):
        got = moment(self.BOOK, first_standing(self.BOOK), ("yes",))
        self.assertEqual([type(value) for value in told(got)], [int, tuple, tuple, tuple, bool, tuple, tuple])
        self.assertEqual([type(part) for part in got.doings[0]], [int, str, str, tuple])

    def test_alike_where_all_values_are(self):
        one = moment(self.BOOK, first_standing(self.BOOK), ("yes",))
        self.assertIs(one == moment(self.BOOK, first_standing(self.BOOK), ("yes",)), True)
        self.assertIs(one != moment(self.BOOK, first_standing(self.BOOK), ("yes",)), False)
        self.assertIs(one == Moment(*told(one)), True)
        others = (3, ("no",), (), (("lamp", ("a", "b")),), True, ("off", "off", "on"), (2, ("off", "on", "off"), (1, 0)))
        for at in range(7):
            values = list(told(one))
            values[at] = others[at]
            self.assertIs(one == Moment(*values), False, FIELDS[at])
            self.assertIs(one != Moment(*values), True, FIELDS[at])

    def test_a_moment_and_any_other_thing(self):
        one = moment(self.BOOK, first_standing(self.BOOK), ("yes",))
        for thing in odd_things() + [told(one), repr(one), 0, Moment, moment, AlikeToAll(), Stubborn()]:
            self.assertIs(one == thing, False)
            self.assertIs(one != thing, True)

    def test_len_truth_and_repr(self):
        one = moment(self.BOOK, first_standing(self.BOOK), ("yes",))
        self.assertEqual((len(one), bool(one), repr(one)), (1, True, "Moment(0)"))
        none = moment(self.BOOK, (3, ("off", "off", "off"), (0, 0)), ("no",))
        self.assertEqual((len(none), bool(none), repr(none)), (0, False, "Moment(3)"))


class ByChanceTest(unittest.TestCase):
    def test_as_another_reading_has_it(self):
        chance = random.Random(8)
        restless = clashes = chains = 0
        for turn in range(500):
            book = some_book(chance)
            for standing in chance.sample(all_standings(book), min(8, book.size())):
                for outer in all_outer(book.house):
                    inner = [name for name, values in book.house.inner]
                    held = tuple(name for name in inner if chance.randrange(4) == 0)
                    failing = tuple(name for name in inner if chance.randrange(4) == 0)
                    got = moment(book, standing, outer)
                    self.assertEqual(told(got), by_another_reading(book, standing, outer))
                    self.assertIs(is_standing(book, got.standing), True)
                    restless += got.restless
                    clashes += len(got.clashes) > 0
                    chains += len(got) > 2
                    got = moment(book, standing, outer, held, failing)
                    self.assertEqual(told(got), by_another_reading(book, standing, outer, held, failing))
        self.assertTrue(min(restless, clashes, chains) > 50, (restless, clashes, chains))

    def test_the_order_in_which_rules_came_means_nothing(self):
        chance = random.Random(9)
        for turn in range(40):
            book = some_book(chance)
            other = Book(book.house, tuple(chance.sample(book.rules, len(book))))
            for standing in chance.sample(all_standings(book), min(5, book.size())):
                for outer in all_outer(book.house):
                    self.assertIs(moment(book, standing, outer) == moment(other, standing, outer), True)


if __name__ == "__main__":
    unittest.main()
