import unittest

from hearthrules.names import are_pairs, is_name, is_rising, is_row, is_whole, read_number
from oddities import odd_things

SIGNS = [chr(number) for number in [10] + list(range(32, 127))]


class IsNameTest(unittest.TestCase):
    def test_one_to_eight_small_letters(self):
        letters = "abcdefghijklmnopqrstuvwxyz"
        for letter in letters:
            self.assertIs(is_name(letter), True)
        for many in range(1, 9):
            self.assertIs(is_name(letters[-many:]), True)

    def test_no_letters_and_nine_are_no_name(self):
        for text in ("", "abcdefghi", "aaaaaaaaa", "a" * 6000):
            self.assertIs(is_name(text), False)

    def test_the_six_words(self):
        for text in ("is", "hour", "to", "not", "and", "or"):
            self.assertIs(is_name(text), False)

    def test_what_is_near_the_six_words_is_a_name(self):
        for text in ("i", "s", "si", "iss", "hours", "hou", "t", "too", "no", "nota", "an", "ands", "o", "ore"):
            self.assertIs(is_name(text), True)

    def test_words_of_other_parts_are_names(self):
        for text in ("rule", "outer", "inner", "hand", "free", "fail", "by", "none", "clash", "unless"):
            self.assertIs(is_name(text), True)

    def test_other_signs(self):
        small = [sign for sign in SIGNS if is_name(sign)]
        self.assertEqual("".join(small), "abcdefghijklmnopqrstuvwxyz")
        for sign in SIGNS:
            if sign not in small:
                for text in (sign + "lamp", "la" + sign + "mp", "lamp" + sign):
                    self.assertIs(is_name(text), False, text)

    def test_capitals_of_the_six_words(self):
        for text in ("Is", "IS", "Hour", "AND"):
            self.assertIs(is_name(text), False)

    def test_things_of_any_kind(self):
        for thing in odd_things() + [0, 1, (), [], {}, set(), ("a",), ["a"], b"a"]:
            self.assertIs(is_name(thing), False)


class FormTest(unittest.TestCase):
    def test_whole_numbers_within_bounds(self):
        self.assertEqual([k for k in range(-3, 9) if is_whole(k, 1, 6)], [1, 2, 3, 4, 5, 6])

    def test_truths_and_other_things_are_no_whole_numbers(self):
        things = [thing for thing in odd_things() if not isinstance(thing, int)]
        for thing in things + [True, False, "1", "", (), [1]]:
            self.assertIs(is_whole(thing, 0, 9), False)

    def test_rows_are_tuples_of_so_many_parts(self):
        rows = [(0,) * many for many in range(5)]
        self.assertEqual([len(row) for row in rows if is_row(row, 1, 3)], [1, 2, 3])
        for thing in ([0], "a", b"a", {"a": 0}, {0}, range(1), None, 1):
            self.assertIs(is_row(thing, 0, 3), False)

    def test_rising(self):
        for parts in ([], ["a"], ["a", "b"], ["a", "aa", "ab", "b"]):
            self.assertIs(is_rising(parts), True)
        for parts in (["a", "a"], ["b", "a"], ["a", "c", "b"], ["a", "b", "b"]):
            self.assertIs(is_rising(parts), False)

    def test_pairs_of_names_rising_by_unlike_first_ones(self):
        pairs = (("a", "z"), ("b", "y"), ("c", "y"))
        self.assertEqual([many for many in range(4) if are_pairs(pairs[:many], 1, 2)], [1, 2])
        self.assertIs(are_pairs((), 0, 4), True)
        for thing in [pairs[::-1], (("a", "x"), ("a", "y")), list(pairs), (["a", "z"],), (("a",),), (("a", "z", "z"),),
                      (("a", "is"),), (("is", "a"),), ("ab",), (("a", None),)] + odd_things():
            self.assertIs(are_pairs(thing, 0, 4), False)

    def test_numbers_of_one_or_two_figures(self):
        for number in range(100):
            self.assertEqual(read_number(str(number)), number)
        for word in ("", "00", "01", "09", "100", "-1", "+1", " 1", "1 ", "1\n", "a", "1a", "1_1", "1."):
            self.assertIsNone(read_number(word))


if __name__ == "__main__":
    unittest.main()
