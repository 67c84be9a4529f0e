import unittest

from hearthrules.names import is_name, is_rising, is_row, is_whole
from oddities import odd_things

SIGNS = [chr(number) for number in [10] + list(range(32, 127))]


class IsNameTest(unittest.TestCase):
    def test_one_to_eight_small_letters(self):
        letters = "abcdefghijklmnopqrstuvwxyz"
        for letter in letters:
            self.assertIs(is_name(letter), True)
        for many in range(1, 9):
            self.assertIs(is_name(letters[-many:]), True)

    def test_no_letters_and_nine_are_no_name(self):
        for text in ("", "abcdefghi", "aaaaaaaaa", "a" * 6000):
            self.assertIs(is_name(text), False)

    def test_the_six_words(self):
        for text in ("is", "hour", "to", "not", "and", "or"):
            self.assertIs(is_name(text), False)

    def test_what_is_near_the_six_words_is_a_name(self):
        for text in ("i", "s", "si", "iss", "hours", "hou", "t", "too", "no", "nota", "an", "ands", "o", "ore"):
            self.assertIs(is_name(text), True)

    def test_words_of_other_parts_are_names(self):
        for text in ("rule", "outer", "inner", "hand", "free", "fail", "by", "none", "clash", "unless"):
            self.assertIs(is_name(text), True)

    def test_other_signs(self):
        small = [sign for sign in SIGNS if is_name(sign)]
        self.assertEqual("".join(small), "abcdefghijklmnopqrstuvwxyz")
        for sign in SIGNS:
            if sign not in small:
                for text in (sign + "lamp", "la" + sign + "mp", "lamp" + sign):
                    self.assertIs(is_name(text), False, text)

    def test_capitals_of_the_six_words(self):
        for text in ("Is", "IS", "Hour", "AND"):
            self.assertIs(is_name(text), False)

    def test_things_of_any_kind(self):
        for thing in odd_things() + [0, 1, (), [], {}, set(), ("a",), ["a"], b"a"]:
            self.assertIs(is_name(thing), False)


class FormTest(unittest.TestCase):
    def test_whole_numbers_within_bounds(self):
        self.assertEqual([k for k in range(-3, 9) if is_whole(k, 1, 6)], [1, 2, 3, 4, 5, 6])

    def test_truths_and_other_things_are_no_whole_numbers(self):
        things = [thing for thing in odd_things() if not isinstance(thing, int)]
        for thing in things + [True, False, "1", "", (), [1]]:
            self.assertIs(is_whole(thing, 0, 9), False)

    def test_rows_are_tuples_of_so_many_parts(self):
        rows = [(0,) * many for many in range(5)]
        self.assertEqual([len(row) for row in rows if is_row(row, 1, 3)], [1, 2, 3])
        for thing in ([0], "a", b"a", {"a": 0}, {0}, range(1), None, 1):
            self.assertIs(is_row(thing, 0, 3), False)

    def test_rising(self):
        for parts in ([], ["a"], ["a", "b"], ["a", "aa", "ab", "b"]):
            self.assertIs(is_rising(parts), True)
        for parts in (["a", "a"], ["b", "a"], ["a", "c", "b"], ["a", "b", "b"]):
            self.assertIs(is_rising(parts), False)


if __name__ == "__main__":
    unittest.main()
