"""Point 3: what holds over the whole program."""
import random
import unittest

from hearthrules.books import Book, read_book
from hearthrules.checker import holds
from hearthrules.comes import clash, doing, restless, silent
from hearthrules.courses import Course, plain
from hearthrules.desk import Desk
from hearthrules.few import fewest
from hearthrules.houses import all_outer
from hearthrules.logs import is_log, log_of, read_log
from hearthrules.machines import made
from hearthrules.moments import first_standing, moment
from hearthrules.pairs import parted
from hearthrules.papers import paper_alike, paper_always, paper_clash, paper_doing, paper_fewest, paper_rests
from hearthrules.runs import moved, run
from hearthrules.wishes import always
from readings import moments_on, some_book, some_course, some_house, some_saying


class WholeTest(unittest.TestCase):
    def some_outers(self, chance, house, many):
        return tuple(chance.choice(all_outer(house)) for number in range(many))

    def test_a_machine_a_run_and_a_desk_tell_the_same(self):
        chance = random.Random(101)
        for turn in range(120):
            house = some_house(chance)
            book = some_book(chance, house)
            outers = self.some_outers(chance, house, 8)
            moments = run(book, plain(house, outers))
            self.assertEqual(moments, moments_on(book, plain(house, outers)))
            ends = [one.ends for one in moments]
            self.assertEqual(made(book).walk(outers), ends)
            self.assertEqual(made(book).least().walk(outers), ends)
            desk = Desk(house)
            for rule in chance.sample(book.rules, len(book)):
                desk.say(f"rule {rule}")
            log = log_of(book, plain(house, outers)).split("\n")
            for outer, row, values in zip(outers, log, ends):
                self.assertEqual(desk.say(" ".join(["next", *outer])), row.partition("| ")[2])
                self.assertEqual(tuple(desk.say("what " + name) for name, others in house.inner), values)

    def test_a_book_read_from_its_text_does_the_same(self):
        chance = random.Random(102)
        for turn in range(40):
            house = some_house(chance)
            book = some_book(chance, house, 4)
            rows = str(book).split("\n")
            first = len(rows) - len(book)
            other = read_book("\n".join(rows[:first] + chance.sample(rows[first:], len(book))))
            course, saying = some_course(chance, house, 6), some_saying(chance, house)
            self.assertEqual(run(other, course), run(book, course))
            self.assertEqual(log_of(other, course), log_of(book, course))
            self.assertEqual(moved(book, other, course), [])
            self.assertEqual((made(other), made(other).standings), (made(book), made(book).standings))
            for question in (clash, restless, silent, fewest):
                self.assertEqual(question(other), question(book))
            for rule in book.rules:
                self.assertEqual(doing(other, rule.name), doing(book, rule.name))
            self.assertEqual(always(other, saying, 2), always(book, saying, 2))
            self.assertIsNone(parted(book, other))

    def test_a_moment_hangs_on_standing_outer_values_and_hands_alone(self):
        chance = random.Random(103)
        again = 0
        for turn in range(40):
            house = some_house(chance)
            book = some_book(chance, house)
            known = {}
            standing = first_standing(book)
            for one in run(book, plain(house, self.some_outers(chance, house, 40))):
                # Whatever came ahead of it, the same standing and outer values bring the same moment.
                again += (standing, one.outer) in known
                self.assertEqual(known.setdefault((standing, one.outer), one), one)
                self.assertEqual(moment(read_book(str(book)), standing, one.outer), one)
                standing = one.standing
        self.assertGreater(again, 100)

    def test_hands_alone_make_a_moment_with_hands(self):
        chance = random.Random(108)
        for turn in range(60):
            house = some_house(chance)
            book = some_book(chance, house)
            course = some_course(chance, house, 8)
            standing, held = first_standing(book), set()
            for one, (outer, hands, freed, failing) in zip(run(book, course), course.rows):
                held = (held - set(freed)) | set(dict(hands))
                set_by_hand = {thing: value for thing, value in hands if thing not in failing}
                ends = tuple(set_by_hand.get(name, value) for (name, values), value in zip(house.inner, standing[1]))
                self.assertEqual(moment(book, (standing[0], ends, standing[2]), outer, tuple(sorted(held)), failing), one)
                standing = one.standing

    def test_a_change_changes_nothing_ahead_of_it(self):
        chance = random.Random(104)
        for turn in range(30):
            house = some_house(chance)
            book, other = some_book(chance, house), some_book(chance, house)
            course = some_course(chance, house, 6)
            text, rows = str(book), course.rows
            for at in range(6):
                changed = run(book, course, ((at, other),))
                self.assertEqual(changed[:at], run(book, course)[:at])
                self.assertEqual([row for row in moved(book, other, course, at) if row[0] < at], [])
            self.assertEqual((str(book), course.rows), (text, rows))

    def test_two_books_are_parted_or_have_one_least_machine(self):
        chance = random.Random(105)
        found = {True: 0, False: 0}
        for turn in range(80):
            house = some_house(chance)
            book = some_book(chance, house)
            other = book.without(chance.choice(book.rules).name) if len(book) else some_book(chance, house)
            alike = made(book).least() == made(other).least()
            found[alike] += 1
            self.assertIs(parted(book, other) is None, alike)
            if not alike:
                outers = tuple(row[0] for row in parted(book, other).rows)
                self.assertNotEqual(made(book).walk(outers), made(other).walk(outers))
                self.assertEqual(made(book).walk(outers[:-1]), made(other).walk(outers[:-1]))
        self.assertGreater(min(found.values()), 10, found)

    def test_logs_and_papers(self):
        chance = random.Random(106)
        for turn in range(30):
            house = some_house(chance)
            book, other, saying = some_book(chance, house, 4), some_book(chance, house, 3), some_saying(chance, house)
            course = some_course(chance, house, 10)
            text = log_of(book, course)
            self.assertEqual(read_log(house, text), course)
            self.assertIs(is_log(book, text), True)
            told = [paper_clash(book), paper_rests(book), paper_always(book, saying), paper_alike(book, other), paper_fewest(book)]
            told += [paper_doing(book, rule.name) for rule in book.rules]
            for claim, paper in told:
                self.assertIs(holds(claim, paper), True)

    def test_lists_told_are_the_askers_own(self):
        chance = random.Random(107)
        house = some_house(chance)
        book = some_book(chance, house)
        course = Course(house, plain(house, self.some_outers(chance, house, 3)).rows)
        lists = [run(book, course), moved(book, Book(house), course), made(book).walk(()), all_outer(house)]
        again = [run(book, course), moved(book, Book(house), course), made(book).walk(()), all_outer(house)]
        for one, two in zip(lists, again):
            self.assertIs(type(one), list)
            self.assertIsNot(one, two)
            one.append(None)
            self.assertNotEqual(one, two)


if __name__ == "__main__":
    unittest.main()
