import itertools
import random
import unittest

from hearthrules.books import Book, read_book
from hearthrules.errors import HearthError, NoOuter, TooMany
from hearthrules.houses import House, all_outer
from hearthrules.machines import Machine, made
from hearthrules.moments import first_standing, is_standing, moment
from hearthrules.rules import Rule, read_rule
from hearthrules.sayings import Saying
from oddities import AlikeToAll, Stubborn, odd_things

HOUSE = House((("rain", ("no", "yes")),), (("lamp", ("off", "on")),), 1)
TWICE = House((("rain", ("no", "yes")),), (("heat", ("off", "on")), ("lamp", ("off", "on"))), 2)
WET = Book(HOUSE, (read_rule("wet 0 1 | rain is yes | - | lamp on"),))
FOUR = ("a", "b", "c", "d")


def book_of(house, *texts):
    return Book(house, tuple(read_rule(text) for text in texts))


def plain_ends(book, outers):
    """The ends of a course, moment by moment."""
    standing, ends = first_standing(book), []
    for outer in outers:
        told = moment(book, standing, outer)
        ends.append(told.ends)
        standing = told.standing
    return ends


def do_alike(book, other):
    """Whether two books do alike on all courses, by the pairs of standings that come together."""
    todo, seen = [(first_standing(book), first_standing(other))], set()
    while todo:
        pair = todo.pop()
        if pair not in seen:
            seen.add(pair)
            for outer in all_outer(book.house):
                one, two = moment(book, pair[0], outer), moment(other, pair[1], outer)
                if one.ends != two.ends:
                    return False
                todo.append((one.standing, two.standing))
    return True


def some_book(chance, house):
    def part():
        name, values = chance.choice(house.outer + house.inner)
        return chance.choice(["", "not "]) + chance.choice([f"{name} is {chance.choice(values)}", f"hour {chance.randrange(house.hours)}"])
    rules = []
    for name in "pqrs"[:chance.randrange(4)]:
        do = tuple((thing, chance.choice(values)) for thing, values in house.inner if chance.randrange(2))
        when = Saying(chance.choice([" and ", " or "]).join([part() for many in range(chance.randrange(1, 3))]))
        rules.append(Rule(name, when, do or (("lamp", "on"),), chance.randrange(2), chance.choice([0, 0, 1, 2])))
    return Book(house, tuple(rules))


class MadeTest(unittest.TestCase):
    def test_table_and_standings_by_hand(self):
        machine = made(WET)
        self.assertEqual(machine.house, HOUSE)
        self.assertEqual(machine.standings, ((0, ("off",), (0,)), (0, ("off",), (1,)), (0, ("on",), (1,)), (0, ("on",), (0,))))
        self.assertEqual(machine.table, (
            ((0, ("off",)), (1, ("off",))), ((0, ("off",)), (2, ("on",))), ((3, ("on",)), (2, ("on",))),
            ((3, ("on",)), (2, ("on",)))))
        self.assertEqual((len(machine), repr(machine)), (4, "Machine(4)"))

    def test_a_book_without_rules(self):
        house = House((), (("lamp", ("on", "off")),), 3)
        machine = made(Book(house))
        self.assertEqual(machine.table, (((1, ("on",)),), ((2, ("on",)),), ((0, ("on",)),)))
        self.assertEqual(machine.standings, ((0, ("on",), ()), (1, ("on",), ()), (2, ("on",), ())))
        self.assertEqual((len(machine), bool(machine), repr(machine)), (3, True, "Machine(3)"))

    def test_outer_values_in_their_order(self):
        house = House((("door", ("wide", "shut")), ("rain", ("yes", "no"))), (("lamp", ("off", "on", "dim")),), 1)
        book = book_of(house, "a 0 0 | door is wide and rain is no | - | lamp dim", "b 0 0 | door is shut and rain is yes | - | lamp on")
        machine = made(book)
        self.assertEqual(machine.standings, ((0, ("off",), (0, 0)), (0, ("dim",), (0, 0)), (0, ("on",), (0, 0))))
        self.assertEqual(machine.table[0], ((0, ("off",)), (1, ("dim",)), (2, ("on",)), (0, ("off",))))
        self.assertEqual(machine.table[2], ((2, ("on",)), (1, ("dim",)), (2, ("on",)), (2, ("on",))))

    def test_kinds_of_values(self):
        machine = made(WET)
        for row in (machine.table, machine.standings, machine.table[0], machine.table[0][0], machine.table[0][0][1]):
            self.assertIsInstance(row, tuple)
        self.assertIs(type(machine.table[0][0][0]), int)

    def test_numbers_as_standings_are_first_come_to(self):
        chance = random.Random(1)
        for turn in range(40):
            book = some_book(chance, TWICE)
            machine = made(book)
            order = [0]
            for at in range(len(machine)):
                for number, ends in machine.table[order[at]]:
                    if number not in order:
                        order.append(number)
            self.assertEqual(order, list(range(len(machine))))
            self.assertEqual(machine.standings[0], first_standing(book))
            self.assertEqual(len(set(machine.standings)), len(machine))
            for standing, row in zip(machine.standings, machine.table, strict=True):
                self.assertIs(is_standing(book, standing), True)
                for outer, (number, ends) in zip(all_outer(book.house), row, strict=True):
                    told = moment(book, standing, outer)
                    self.assertEqual((machine.standings[number], ends), (told.standing, told.ends))

    def test_behind_nought_to_three(self):
        for behind in range(4):
            book = book_of(HOUSE, f"wet 0 {behind} | rain is yes | - | lamp on")
            self.assertEqual(len(made(book)), 2 * (behind + 1))
            self.assertEqual(made(book).walk((("yes",),) * 5), [("off",)] * behind + [("on",)] * (5 - behind))

    def test_sizes_within_400(self):
        # No book has 400 itself, for only the hours can bring a factor of five: 384 is the greatest within, 405 the next.
        house = House((), (("a", FOUR), ("b", FOUR), ("c", FOUR)), 6)
        self.assertEqual((Book(house).size(), len(made(Book(house)))), (384, 6))
        rules = [f"{name} 0 3 | hour 0 | - | a b" for name in "pqr"] + ["s 0 2 | hour 0 | - | a b"]
        book = book_of(House((), (("a", FOUR[:2]),), 1), *rules)
        self.assertEqual((book.size(), len(made(book))), (384, 4))

    def test_sizes_of_more(self):
        house = House((), (("a", FOUR), ("b", FOUR), ("c", FOUR)), 6)
        for book, many in ((Book(House((), tuple((name, FOUR[:3]) for name in "abcd"), 5)), 405),
                           (Book(House((), (("a", FOUR), ("b", FOUR), ("c", FOUR), ("d", FOUR[:2])), 4)), 512),
                           (book_of(house, "p 0 1 | hour 0 | - | a b"), 768),
                           (Book(House((), tuple((name, FOUR) for name in "abcd"), 6)), 1536)):
            with self.assertRaises(TooMany) as caught:
                made(book)
            self.assertEqual((caught.exception.many, caught.exception.most), (many, 400))
            self.assertEqual(book.size(), many)
            self.assertIsInstance(caught.exception, HearthError)


class WalkTest(unittest.TestCase):
    def test_the_ends_of_each_moment(self):
        machine = made(WET)
        yes, no = ("yes",), ("no",)
        self.assertEqual(machine.walk(()), [])
        self.assertEqual(machine.walk((yes,)), [("off",)])
        self.assertEqual(machine.walk((yes, yes, no)), [("off",), ("on",), ("on",)])
        self.assertEqual(machine.walk((yes, no, yes, no)), [("off",)] * 4)
        self.assertEqual(len(machine.walk((no,) * 2000)), 2000)

    def test_a_new_list_each_time(self):
        machine = made(WET)
        told = machine.walk((("yes",),))
        told.append("more")
        self.assertEqual(machine.walk((("yes",),)), [("off",)])
        self.assertIsInstance(told, list)

    def test_no_outer_thing(self):
        machine = made(book_of(House((), (("lamp", ("off", "on")),), 2), "a 0 0 | hour 1 | - | lamp on"))
        self.assertEqual(machine.walk(((), (), ())), [("off",), ("on",), ("on",)])

    def test_as_the_plain_reading(self):
        chance = random.Random(2)
        for turn in range(40):
            book = some_book(chance, TWICE)
            machine = made(book)
            for many in (1, 3, 12):
                outers = tuple(chance.choices(all_outer(TWICE), k=many))
                self.assertEqual(machine.walk(outers), plain_ends(book, outers))
                self.assertEqual(machine.least().walk(outers), plain_ends(book, outers))

    def test_refused(self):
        yes = ("yes",)
        for outers in [[yes], [], yes, "yes", (yes, ["no"]), (("on",),), (("yes", "no"),), ((),), (yes, None), None, 0, {}, {yes},
                       (yes, Stubborn()), (AlikeToAll(),), ((AlikeToAll(),),), "", (yes, "no")] + odd_things():
            for machine in (made(WET), made(WET).least()):
                with self.assertRaises(NoOuter) as caught:
                    machine.walk(outers)
                self.assertIsInstance(caught.exception, HearthError)


class LeastTest(unittest.TestCase):
    def test_by_hand(self):
        machine = made(WET).least()
        self.assertEqual(machine.table, (((0, ("off",)), (1, ("off",))), ((0, ("off",)), (2, ("on",))), ((2, ("on",)), (2, ("on",)))))
        self.assertEqual(machine.standings, ((0, ("off",), (0,)), (0, ("off",), (1,)), (0, ("on",), (1,))))
        self.assertEqual((machine.house, len(machine), repr(machine)), (HOUSE, 3, "Machine(3)"))
        for row in (machine.table, machine.standings, machine.table[0], machine.table[0][0]):
            self.assertIsInstance(row, tuple)

    def test_hours_that_mean_nothing_stand_together(self):
        machine = made(Book(TWICE))
        self.assertEqual((len(machine), len(machine.least())), (2, 1))
        self.assertEqual(machine.least().table, (((0, ("off", "off")), (0, ("off", "off"))),))
        self.assertEqual(machine.least().standings, (first_standing(Book(TWICE)),))

    def test_nothing_stands_together(self):
        machine = made(book_of(HOUSE, "wet 0 0 | rain is yes | - | lamp on", "dry 0 0 | rain is no | - | lamp off"))
        self.assertEqual(len(machine.least()), 1)
        machine = made(book_of(HOUSE, "wet 0 0 | rain is yes | - | lamp on"))
        self.assertEqual((len(machine), machine.least() == machine), (2, True))
        self.assertEqual(machine.least().standings, machine.standings)

    def test_standings_that_only_a_long_course_parts(self):
        book = book_of(HOUSE, "wet 0 3 | rain is yes | - | lamp on")
        self.assertEqual(len(made(book).least()), 5)

    def test_the_machine_itself_stays(self):
        machine = made(WET)
        table, standings = machine.table, machine.standings
        machine.least()
        self.assertEqual((machine.table, machine.standings), (table, standings))
        self.assertEqual(machine.least().least(), machine.least())

    def test_standings_together_just_where_they_tell_the_same(self):
        chance = random.Random(3)
        merged = 0
        for turn in range(60):
            machine = made(some_book(chance, TWICE))
            parted = self.parted(machine)
            leaders = [at for at in range(len(machine)) if all((before, at) in parted for before in range(at))]
            least = machine.least()
            self.assertEqual(sorted(least.standings), sorted(machine.standings[at] for at in leaders))
            merged += len(least) < len(machine)
            order = [0]
            for at in range(len(least)):
                order += [number for number, ends in dict.fromkeys(least.table[order[at]]) if number not in order]
                order = list(dict.fromkeys(order))
            self.assertEqual(order, list(range(len(least))))
        self.assertGreater(merged, 10)

    def parted(self, machine):
        """All pairs of numbers that some course parts."""
        pairs = list(itertools.product(range(len(machine)), repeat=2))
        parted = set()
        grown = True
        while grown:
            fresh = {(one, two) for one, two in pairs if (one, two) not in parted and any(
                left[1] != right[1] or (left[0], right[0]) in parted
                for left, right in zip(machine.table[one], machine.table[two]))}
            parted |= fresh
            grown = bool(fresh)
        return parted

    def test_two_books_that_do_alike(self):
        more = book_of(HOUSE, "wet 0 1 | rain is yes | - | lamp on", "never 9 3 | rain is yes and rain is no | - | lamp off",
                       "also 0 1 | not rain is no | - | lamp on")
        self.assertIs(made(more).least() == made(WET).least(), True)
        self.assertIs(made(more) == made(WET), True)
        late = book_of(HOUSE, "wet 0 1 | rain is yes | - | lamp on", "z 0 3 | rain is yes | - | lamp on")
        self.assertIs(made(late) == made(WET), False)
        self.assertIs(made(late).least() == made(WET).least(), True)

    def test_two_books_that_do_not(self):
        for text in ("wet 0 2 | rain is yes | - | lamp on", "wet 0 0 | rain is yes | - | lamp on", "wet 0 1 | rain is no | - | lamp on"):
            self.assertIs(made(book_of(HOUSE, text)).least() == made(WET).least(), False)

    def test_the_same_just_where_books_do_alike(self):
        chance = random.Random(4)
        books = [some_book(chance, TWICE) for turn in range(60)]
        found = {True: 0, False: 0}
        for one, two in itertools.combinations(books, 2):
            alike = do_alike(one, two)
            found[alike] += 1
            self.assertIs(made(one).least() == made(two).least(), alike)
        self.assertTrue(min(found.values()) > 20, found)


class AlikeTest(unittest.TestCase):
    def test_alike_where_houses_and_tables_are(self):
        other = read_book(str(WET).replace("rule wet", "rule rainy"))
        self.assertIs(made(WET) == made(other), True)
        self.assertIs(made(WET) != made(other), False)
        self.assertIs(made(WET) == made(Book(HOUSE)), False)
        self.assertIs(made(WET) != made(Book(HOUSE)), True)
        self.assertIs(made(WET) == made(WET).least(), False)

    def test_standings_do_not_count(self):
        machine = made(WET)
        self.assertIs(Machine(machine.house, machine.table, ()) == machine, True)

    def test_one_table_in_two_houses(self):
        one = House((("rain", ("no", "yes")),), (("lamp", ("off", "on")),), 1)
        two = House((("rain", ("no", "yes")),), (("lamp", ("off", "dim")),), 1)
        self.assertEqual(made(Book(one)).table, made(Book(two)).table)
        self.assertIs(made(Book(one)) == made(Book(two)), False)

    def test_a_machine_and_any_other_thing(self):
        machine = made(WET)
        for thing in odd_things() + [machine.table, machine.house, "Machine(4)", 4, Machine, AlikeToAll(), Stubborn()]:
            self.assertIs(machine == thing, False)
            self.assertIs(machine != thing, True)


if __name__ == "__main__":
    unittest.main()
