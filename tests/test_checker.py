import ast
import copy
import itertools
import pathlib
import random
import unittest

from hearthrules import checker
from hearthrules.books import Book
from hearthrules.checker import holds
from hearthrules.courses import Course, plain
from hearthrules.houses import House, all_outer
from hearthrules.machines import made
from hearthrules.moments import first_standing, moment
from hearthrules.rules import Rule, read_rule
from hearthrules.sayings import Saying
from oddities import AlikeToAll, Stubborn, deep, odd_things

HOUSE = House((("rain", ("no", "yes")),), (("heat", ("off", "on")), ("lamp", ("off", "on"))), 2)
OTHER_HOUSE = House((("rain", ("no", "yes")),), (("heat", ("off", "on")), ("lamp", ("off", "on"))), 3)
NO, YES = ("no",), ("yes",)
WORDS = ("clash", "restless", "doing", "no clash", "rests", "no doing", "always", "broken", "alike", "parted", "fewest")


def book_of(*texts, house=HOUSE):
    return Book(house, tuple(read_rule(text) for text in texts))


CALM = book_of("a 0 1 | rain is yes | - | lamp on", "b 0 0 | hour 1 and hour 0 | - | heat on")
CLASHING = book_of("a 0 1 | rain is yes | - | lamp on", "b 0 0 | hour 1 | - | lamp off")
RESTLESS = book_of("a 0 0 | rain is yes and lamp is off | - | lamp on", "b 0 0 | lamp is on | - | lamp off")
SPARE = book_of("a 0 0 | rain is yes | - | lamp on", "b 0 0 | lamp is on | - | heat on", "c 0 0 | lamp is on | - | heat on",
                "d 0 1 | rain is yes | - | lamp on")


def table_of(book):
    return tuple(sorted(made(book).standings))


def pairs_of(book, other):
    """All pairs of standings that come together."""
    todo, seen = [(first_standing(book), first_standing(other))], set()
    while todo:
        one, two = todo.pop()
        if (one, two) not in seen:
            seen.add((one, two))
            todo += [(moment(book, one, outer).standing, moment(other, two, outer).standing) for outer in all_outer(book.house)]
    return tuple(sorted(seen))


def course_of(*outers, house=HOUSE):
    return plain(house, outers)


def parting(book, other, most=4):
    """A course that parts two books, None where none of these few moments does."""
    for many in range(1, most + 1):
        for outers in itertools.product(all_outer(book.house), repeat=many):
            if made(book).walk(outers)[-1] != made(other).walk(outers)[-1]:
                return plain(book.house, outers)
    return None


def some_rules(book, names):
    return Book(book.house, tuple(book.named(name) for name in names))


def fewest_paper(book, names):
    every = [rule.name for rule in book.rules]
    sets = [some for many in range(len(names)) for some in itertools.combinations(every, many)]
    return pairs_of(book, some_rules(book, names)), tuple((some, parting(book, some_rules(book, some))) for some in sets)


class Case(unittest.TestCase):
    def taken(self, claim, paper):
        self.assertIs(holds(claim, paper), True, claim)

    def refused(self, claim, paper):
        self.assertIs(holds(claim, paper), False)

    def wrong_courses(self, *outers):
        """Near a course of these outer values, but no course that the checker takes."""
        rows = plain(HOUSE, outers).rows
        return [
            Course(HOUSE), rows, list(rows), plain(OTHER_HOUSE, outers), outers, [plain(HOUSE, outers)], (plain(HOUSE, outers),),
            Course(HOUSE, rows[:-1] + ((rows[-1][0], (("heat", "off"),), (), ()),)),
            Course(HOUSE, rows[:-1] + ((rows[-1][0], (), ("heat",), ()),)),
            Course(HOUSE, rows[:-1] + ((rows[-1][0], (), (), ("heat",)),)),
            Course(HOUSE, ((rows[0][0], (("heat", "off"),), (), ()),) + rows[1:]),
            Course(HOUSE, ((rows[0][0], (), ("heat",), ()),) + rows[1:]),
            Course(HOUSE, ((rows[0][0], (), (), ("heat",)),) + rows[1:]), HOUSE, Course]

    def wrong_tables(self, book):
        """The book's table with one clause broken."""
        table = table_of(book)
        hour, ends, counts = table[-1]
        least = table[0]
        spoilt = [(), list(table), table[::-1], table + table[-1:], table[:1] + table, table[1:2] + table[:1] + table[2:],
                  set(table), dict.fromkeys(table), iter(table), (table,), table + (None,), (None,) + table, Course(book.house)]
        spoilt += [table[:at] + table[at + 1:] for at in range(len(table))]
        for row in ((bool(hour), ends, counts), [hour, ends, counts], (hour, list(ends), counts), (hour, ends, list(counts)),
                    (hour, ends), (hour, ends, counts, ()), (9, ends, counts), (hour, ends[1:], counts), (hour, ends, counts + (0,)),
                    (hour, ("max",) + ends[1:], counts), (hour, ends, (9,) * len(counts) or (0,)), (hour, ends, None), Stubborn()):
            spoilt.append(table[:-1] + (row,))
        spoilt.append(((False,) + least[1:],) + table[1:])
        if counts:
            spoilt.append((least[:2] + (tuple(bool(count) for count in least[2]),),) + table[1:])
        return spoilt


class ComesTest(Case):
    def test_clash(self):
        self.taken(("clash", CLASHING), course_of(YES, YES))
        self.taken(("clash", CLASHING), course_of(NO, NO, YES, YES))
        self.refused(("clash", CLASHING), course_of(YES))
        self.refused(("clash", CLASHING), course_of(YES, NO))
        self.refused(("clash", CLASHING), course_of(YES, YES, NO))
        self.refused(("clash", CALM), course_of(YES, YES))
        for paper in self.wrong_courses(YES, YES):
            self.refused(("clash", CLASHING), paper)

    def test_restless(self):
        self.taken(("restless", RESTLESS), course_of(YES))
        self.taken(("restless", RESTLESS), course_of(NO, NO, YES))
        self.refused(("restless", RESTLESS), course_of(NO))
        self.refused(("restless", RESTLESS), course_of(YES, NO))
        self.refused(("restless", CLASHING), course_of(YES, YES))
        for paper in self.wrong_courses(YES):
            self.refused(("restless", RESTLESS), paper)

    def test_doing(self):
        self.taken(("doing", CALM, "a"), course_of(YES, YES))
        self.taken(("doing", SPARE, "c"), course_of(YES))
        self.refused(("doing", CALM, "a"), course_of(YES))
        self.refused(("doing", CALM, "a"), course_of(YES, YES, YES))
        self.refused(("doing", CALM, "b"), course_of(YES, YES))
        self.refused(("doing", SPARE, "d"), course_of(YES, YES))
        for paper in self.wrong_courses(YES, YES):
            self.refused(("doing", CALM, "a"), paper)
        for name in ["c", "lamp", "", "A", ("a",), ["a"], CALM.named("a"), 0] + odd_things():
            self.refused(("doing", CALM, name), course_of(YES, YES))

    def test_broken(self):
        dark = Saying("lamp is off")
        self.taken(("broken", CALM, dark), course_of(YES, YES))
        self.taken(("broken", CALM, dark), course_of(YES, YES, NO))
        self.refused(("broken", CALM, dark), course_of(YES))
        self.refused(("broken", CALM, dark), course_of(NO, YES))
        for paper in self.wrong_courses(YES, YES):
            self.refused(("broken", CALM, dark), paper)
        for saying in [Saying("fan is off"), Saying("lamp is dim"), Saying("hour 2"), Saying("hour 0 to 2"), "lamp is off", dark.text,
                       (dark,), Saying] + odd_things():
            self.refused(("broken", CALM, saying), course_of(YES, YES))

    def test_broken_goes_by_the_hour_and_the_outer_values_of_the_moment(self):
        self.taken(("broken", CALM, Saying("hour 1")), course_of(NO))
        self.refused(("broken", CALM, Saying("hour 0")), course_of(NO))
        self.taken(("broken", CALM, Saying("hour 0")), course_of(NO, NO))
        self.taken(("broken", CALM, Saying("rain is yes")), course_of(YES, NO))
        self.refused(("broken", CALM, Saying("rain is yes")), course_of(NO, YES))

    def test_a_course_of_999_rows(self):
        self.taken(("broken", CALM, Saying("lamp is off")), course_of(*[NO] * 997, YES, YES))
        self.taken(("clash", CLASHING), course_of(*[NO] * 996, YES, YES))
        self.refused(("clash", CLASHING), course_of(*[NO] * 997, YES, YES))


class NeverTest(Case):
    def test_no_clash(self):
        self.taken(("no clash", CALM), table_of(CALM))
        self.taken(("no clash", RESTLESS), table_of(RESTLESS))
        self.refused(("no clash", CLASHING), table_of(CLASHING))
        for paper in self.wrong_tables(CALM):
            self.refused(("no clash", CALM), paper)

    def test_rests(self):
        self.taken(("rests", CALM), table_of(CALM))
        self.taken(("rests", CLASHING), table_of(CLASHING))
        self.refused(("rests", RESTLESS), table_of(RESTLESS))
        for paper in self.wrong_tables(CLASHING):
            self.refused(("rests", CLASHING), paper)

    def test_no_doing(self):
        self.taken(("no doing", CALM, "b"), table_of(CALM))
        self.refused(("no doing", CALM, "a"), table_of(CALM))
        self.taken(("no doing", SPARE, "d"), table_of(SPARE))
        for paper in self.wrong_tables(CALM):
            self.refused(("no doing", CALM, "b"), paper)
        for name in ["c", "heat", "", ("b",), CALM.named("b"), 0] + odd_things():
            self.refused(("no doing", CALM, name), table_of(CALM))

    def test_always(self):
        cold = Saying("heat is off and ( rain is yes or rain is no )")
        self.taken(("always", CALM, cold), table_of(CALM))
        self.refused(("always", CALM, Saying("lamp is off")), table_of(CALM))
        for paper in self.wrong_tables(CALM):
            self.refused(("always", CALM, cold), paper)
        for saying in [Saying("not fan is on"), Saying("not lamp is dim"), Saying("hour 0 to 2 or hour 0 to 1"), cold.text, (cold,),
                       Saying] + odd_things():
            self.refused(("always", CALM, saying), table_of(CALM))

    def test_always_goes_by_the_end_and_the_hour_of_the_moment(self):
        book = book_of("on 0 0 | hour 0 | - | lamp on", "off 0 0 | hour 1 | - | lamp off")
        self.taken(("always", book, Saying("hour 0 and lamp is on or hour 1 and lamp is off")), table_of(book))
        self.refused(("always", book, Saying("hour 1 and lamp is on or hour 0 and lamp is off")), table_of(book))

    def test_a_table_may_hold_more_than_what_comes(self):
        every = tuple(itertools.product(range(2), itertools.product(("off", "on"), repeat=2), itertools.product(range(2), range(1))))
        self.assertGreater(len(every), len(table_of(CALM)))
        self.taken(("no clash", CALM), every)
        self.taken(("rests", CALM), every)
        self.refused(("always", CALM, Saying("heat is off")), every)
        for at in range(len(every)):
            if every[at] in table_of(CALM):
                self.refused(("no clash", CALM), every[:at] + every[at + 1:])

    def test_a_table_of_another_book(self):
        self.refused(("no clash", CALM), table_of(Book(HOUSE)))
        self.refused(("no clash", Book(HOUSE)), table_of(CALM))
        self.refused(("no clash", Book(HOUSE)), table_of(Book(OTHER_HOUSE)))

    def test_a_book_without_rules_and_one_without_outer_things(self):
        self.taken(("no clash", Book(HOUSE)), table_of(Book(HOUSE)))
        book = book_of("a 0 3 | hour 0 | - | lamp on", house=House((), HOUSE.inner, 1))
        self.taken(("rests", book), table_of(book))
        for paper in self.wrong_tables(book):
            self.refused(("rests", book), paper)

    def test_a_table_of_a_book_of_more_than_400(self):
        house = House((), tuple((name, ("a", "b", "c", "d")) for name in "abcd"), 6)
        values = ("a", "a", "a", "a")
        self.taken(("rests", Book(house)), tuple((hour, values, ()) for hour in range(6)))
        self.refused(("rests", Book(house)), tuple((hour, values, ()) for hour in range(5)))


class AlikeTest(Case):
    def setUp(self):
        self.two = book_of("x 0 0 | lamp is on | - | heat on", "y 3 0 | not rain is no | - | lamp on")
        self.pairs = pairs_of(SPARE, self.two)

    def test_alike(self):
        self.taken(("alike", SPARE, self.two), self.pairs)
        self.taken(("alike", self.two, SPARE), tuple(sorted((two, one) for one, two in self.pairs)))
        self.taken(("alike", SPARE, SPARE), tuple((one, one) for one in table_of(SPARE)))
        self.refused(("alike", SPARE, Book(HOUSE)), pairs_of(SPARE, Book(HOUSE)))

    def test_pairs_with_one_clause_broken(self):
        pairs = self.pairs
        self.assertGreater(len(pairs), 3)
        for at in range(len(pairs)):
            self.refused(("alike", SPARE, self.two), pairs[:at] + pairs[at + 1:])
        (hour, ends, counts), two = pairs[-1]
        spoilt = [(), list(pairs), pairs[::-1], pairs + pairs[-1:], pairs[:1] + pairs, set(pairs), dict(pairs), (pairs,), None,
                  tuple((two, one) for one, two in pairs), tuple(one for one, two in pairs), table_of(SPARE), pairs + (None,),
                  Course(HOUSE)]
        for row in ([pairs[-1][0], two], (two, pairs[-1][0]), (two, two), pairs[-1] + (two,), pairs[-1][:1], Stubborn(),
                    ((bool(hour), ends, counts), two), ((hour, list(ends), counts), two), ((hour, ends, list(counts)), two),
                    ((hour, ends, counts), (two[0], two[1], (False,) * len(two[2]))), ((hour, ends, counts), None)):
            spoilt.append(pairs[:-1] + (row,))
        for paper in spoilt:
            self.refused(("alike", SPARE, self.two), paper)

    def test_ends_that_are_not_alike(self):
        two = book_of("x 0 0 | lamp is on | - | heat on", "y 3 1 | rain is yes | - | lamp on")
        self.refused(("alike", SPARE, two), pairs_of(SPARE, two))

    def test_what_is_no_other_book(self):
        spare = Book(OTHER_HOUSE, SPARE.rules)
        self.refused(("alike", SPARE, spare), pairs_of(SPARE, SPARE))
        self.refused(("alike", Book(HOUSE), Book(OTHER_HOUSE)), (((0, ("off", "off"), ()),) * 2, ((1, ("off", "off"), ()),) * 2))
        for other in odd_things() + [HOUSE, SPARE.rules, "a", Book, (SPARE,), str(SPARE)]:
            self.refused(("alike", SPARE, other), pairs_of(SPARE, SPARE))

    def test_parted(self):
        self.taken(("parted", SPARE, CALM), course_of(YES))
        self.taken(("parted", CALM, SPARE), course_of(NO, YES))
        self.refused(("parted", SPARE, CALM), course_of(NO))
        self.refused(("parted", SPARE, self.two), course_of(YES))
        self.refused(("parted", SPARE, SPARE), course_of(YES))
        for paper in self.wrong_courses(YES):
            self.refused(("parted", SPARE, CALM), paper)
        for other in odd_things() + [Book(OTHER_HOUSE), HOUSE, CALM.rules, Book]:
            self.refused(("parted", SPARE, other), course_of(YES))

    def test_books_that_part_and_meet_again(self):
        on = book_of("a 0 0 | rain is yes | - | lamp on", "b 0 0 | rain is no | - | lamp off")
        self.taken(("parted", on, Book(HOUSE)), course_of(YES))
        self.refused(("parted", on, Book(HOUSE)), course_of(YES, NO))


class FewestTest(Case):
    def setUp(self):
        self.names = ("a", "b")
        self.pairs, self.paper = fewest_paper(SPARE, self.names)

    def test_fewest(self):
        self.assertEqual([some for some, course in self.paper], [(), ("a",), ("b",), ("c",), ("d",)])
        self.taken(("fewest", SPARE, self.names), (self.pairs, self.paper))
        self.taken(("fewest", SPARE, ("a", "c")), (pairs_of(SPARE, some_rules(SPARE, ("a", "c"))), self.paper))

    def test_none_at_all(self):
        book = book_of("b 0 0 | hour 0 and hour 1 | - | heat on")
        self.taken(("fewest", book, ()), (pairs_of(book, Book(HOUSE)), ()))
        self.taken(("fewest", Book(HOUSE), ()), (pairs_of(Book(HOUSE), Book(HOUSE)), ()))
        self.refused(("fewest", book, ()), (pairs_of(book, Book(HOUSE)), (((), course_of(NO)),)))
        self.refused(("fewest", book, ("b",)), (pairs_of(book, book), (((), course_of(NO)),)))

    def test_any_course_that_parts_will_do(self):
        longer = tuple((some, course_of(NO, *[row[0] for row in course.rows])) for some, course in self.paper)
        self.taken(("fewest", SPARE, self.names), (self.pairs, longer))

    def test_not_the_fewest(self):
        names = ("a", "b", "d")
        every = [rule.name for rule in SPARE.rules]
        sets = [some for many in range(3) for some in itertools.combinations(every, many)]
        rows = tuple((some, parting(SPARE, some_rules(SPARE, some)) or course_of(YES)) for some in sets)
        self.refused(("fewest", SPARE, names), (pairs_of(SPARE, some_rules(SPARE, names)), rows))
        self.refused(("fewest", SPARE, ("a", "d")), (pairs_of(SPARE, some_rules(SPARE, ("a", "d"))), self.paper))

    def test_names(self):
        for names in [["a", "b"], ("b", "a"), ("a", "a"), ("a", "x"), "ab", ("a", None), None, {"a", "b"}, ("a", "b", "b"),
                      (Stubborn(), "b"), (AlikeToAll(),) * 2, SPARE.rules[:2], Book(HOUSE)] + odd_things():
            self.refused(("fewest", SPARE, names), (self.pairs, self.paper))

    def test_all_sets_of_two_books_of_rules(self):
        book = book_of("a 0 0 | rain is yes | - | lamp on", "b 0 0 | lamp is on | - | heat on", "c 0 0 | rain is no | - | lamp off")
        pairs, paper = fewest_paper(book, ("a", "b", "c"))
        self.assertEqual([some for some, course in paper], [
            (), ("a",), ("b",), ("c",), ("a", "b"), ("a", "c"), ("b", "c")])
        self.taken(("fewest", book, ("a", "b", "c")), (pairs, paper))
        swapped = paper[:1] + paper[4:] + paper[1:4]
        self.refused(("fewest", book, ("a", "b", "c")), (pairs, swapped))

    def test_papers_with_one_clause_broken(self):
        pairs, paper = self.pairs, self.paper
        claim = ("fewest", SPARE, self.names)
        for at in range(len(paper)):
            some, course = paper[at]
            self.refused(claim, (pairs, paper[:at] + paper[at + 1:]))
            for row in ([some, course], (list(some), course), (course, some), (some,), (some, course, course), None, Stubborn(),
                        (some, None), (some, Course(HOUSE)), (some, course.rows), (some, course_of(NO)), (set(some), course),
                        (some + ("d",), course), ((Stubborn(),), course), (AlikeToAll(), course), (None, course),
                        (some, plain(OTHER_HOUSE, tuple(row[0] for row in course.rows))),
                        (some, Course(HOUSE, course.rows[:-1] + ((YES, (), (), ("heat",)),)))):
                self.refused(claim, (pairs, paper[:at] + (row,) + paper[at + 1:]))
        for rows in (paper + paper[-1:], paper[:1] + paper, paper[::-1], paper[1:2] + paper[:1] + paper[2:], list(paper), dict(paper),
                     paper + ((("a", "b"), course_of(YES)),), (), None, (paper,), course_of(YES)):
            self.refused(claim, (pairs, rows))
        for first in [(), list(pairs), pairs[1:], pairs[:-1], pairs[::-1], None, pairs_of(SPARE, SPARE)] + odd_things():
            self.refused(claim, (first, paper))
        for both in ((pairs,), (pairs, paper, ()), [pairs, paper], (paper, pairs), pairs, paper, None, {0: pairs, 1: paper}):
            self.refused(claim, both)

    def test_six_rules(self):
        texts = ["a 0 0 | rain is yes | - | lamp on"] + [f"{name} 0 0 | hour 0 and hour 1 | - | heat on" for name in "bcdef"]
        book = book_of(*texts)
        self.taken(("fewest", book, ("a",)), fewest_paper(book, ("a",)))


class AnyKindTest(Case):
    def test_claims_of_another_word_or_length(self):
        table = table_of(CALM)
        for claim in (("no clashes", CALM), ("No clash", CALM), ("no  clash", CALM), ("", CALM), ("no clash",), ("no clash", CALM, "a"),
                      ("no clash", CALM, None), ("no clash", CALM, ()), ["no clash", CALM], ("no doing", CALM), ("always", CALM), (),
                      ("rests", CALM, CALM), ("no doing", CALM, "b", "b"), ("always", CALM, Saying("heat is off"), 0), (CALM, "no clash"),
                      ("no clash", HOUSE), ("no clash", str(CALM)), ("no clash", CALM.rules), ("no clash", None), CALM, "no clash",
                      (b"no clash", CALM), (("no clash",), CALM), (None, CALM), ("never", CALM), ("fewest", CALM), ("alike", CALM),
                      (Stubborn(), CALM), (AlikeToAll(), CALM), (["no clash"], CALM), ("no clash", Stubborn()), ("no clash", AlikeToAll())):
            self.refused(claim, table)
        self.taken(("no clash", CALM), table)
        for claim in (("clash", CLASHING, "lamp"), ("clash", CLASHING, None), ("clash",), ("restless", CLASHING), ("comes", CLASHING)):
            self.refused(claim, course_of(YES, YES))

    def test_a_paper_for_another_claim(self):
        self.refused(("clash", CLASHING), table_of(CLASHING))
        self.refused(("no clash", CALM), course_of(YES, YES))
        self.refused(("rests", CALM), pairs_of(CALM, CALM))
        self.refused(("parted", SPARE, CALM), pairs_of(SPARE, CALM))

    def test_things_of_any_kind(self):
        things = odd_things() + [(), [], {}, 0, 1, "", deep(10), (((((((((()),),),),),),),),), HOUSE, CALM, Saying("hour 0"),
                                 CALM.named("a"), course_of(YES), Course(HOUSE), made(CALM), moment(CALM, first_standing(CALM), NO),
                                 (None, None), ((), ()), ((), (), ()), (0, (), ()), ((0, ("off", "off"), (0, 0)),), Exception, holds]
        claims = [(word, CALM) for word in WORDS]
        claims += [(word, CALM, about) for word in WORDS for about in ("a", Saying("hour 0"), CALM, ("a",), ("a", "b"), ())]
        for thing in things:
            for claim in claims:
                if isinstance(thing, Course) and len(thing) > 0:
                    self.assertIn(holds(claim, thing), (True, False))
                else:
                    self.refused(claim, thing)
            for paper in things:
                self.refused(thing, paper)
            for word in WORDS:
                if not isinstance(thing, Book):
                    self.refused((word, thing), table_of(CALM))
                self.refused((word, thing, thing), course_of(YES, YES))

    def test_nothing_is_changed(self):
        paper = list(table_of(CALM))
        kept = copy.deepcopy(paper)
        self.refused(("no clash", CALM), paper)
        self.assertEqual(paper, kept)
        text = str(CALM)
        self.taken(("no clash", CALM), tuple(paper))
        self.assertEqual(str(CALM), text)

    def test_imports_stages_one_to_six_alone(self):
        tree = ast.parse(pathlib.Path(checker.__file__).read_text(encoding="utf-8"))
        allowed = {"errors", "names", "houses", "sayings", "rules", "books", "moments", "courses", "runs"}
        for node in ast.walk(tree):
            if isinstance(node, ast.ImportFrom):
                self.assertIn(node.module.removeprefix("hearthrules."), allowed)


class ByChanceTest(Case):
    """Whatever is taken is so, and what is so is taken with its paper."""

    def some_book(self, chance):
        rules = []
        for name in "pqrs"[:chance.randrange(1, 5)]:
            do = tuple((thing, chance.choice(values)) for thing, values in HOUSE.inner if chance.randrange(2))
            when = chance.choice(["rain is yes", "rain is no", "hour 1", "lamp is on", "heat is off", "not lamp is on and rain is yes"])
            rules.append(Rule(name, Saying(when), do or (("lamp", "on"),), chance.randrange(2), chance.choice([0, 0, 1])))
        return Book(HOUSE, tuple(rules))

    def test_tables_and_courses(self):
        chance = random.Random(11)
        seen = {}
        for turn in range(40):
            book = self.some_book(chance)
            table = table_of(book)
            moments = [moment(book, standing, outer) for standing in table for outer in all_outer(HOUSE)]
            saying = Saying(chance.choice(["lamp is off", "heat is off or lamp is on", "not ( heat is on and hour 0 )"]))
            ends = [told.outer + told.ends for told in moments]
            broken = any(not saying.so(told.hour, dict(zip(("rain", "heat", "lamp"), row))) for told, row in zip(moments, ends))
            name = book.rules[0].name
            for never, comes, truth in (
                    (("no clash", book), ("clash", book), any(told.clashes for told in moments)),
                    (("rests", book), ("restless", book), any(told.restless for told in moments)),
                    (("no doing", book, name), ("doing", book, name), any(name in row[3] for told in moments for row in told.doings)),
                    (("always", book, saying), ("broken", book, saying), broken)):
                self.assertIs(holds(never, table), not truth)
                shown = any(holds(comes, plain(HOUSE, outers)) for many in range(1, 7)
                            for outers in itertools.product((NO, YES), repeat=many))
                self.assertIs(shown, truth)
                seen[never[0], truth] = True
        self.assertGreater(len(seen), 6, seen)

    def test_pairs(self):
        chance = random.Random(12)
        found = {True: 0, False: 0}
        for turn in range(60):
            one = self.some_book(chance)
            two = one.without(one.rules[0].name) if turn % 2 else self.some_book(chance)
            alike = made(one).least() == made(two).least()
            found[alike] += 1
            self.assertIs(holds(("alike", one, two), pairs_of(one, two)), alike)
            course = parting(one, two)
            self.assertIs(course is None, alike)
            self.assertIs(holds(("parted", one, two), course), not alike)
        self.assertGreater(min(found.values()), 5, found)


if __name__ == "__main__":
    unittest.main()
