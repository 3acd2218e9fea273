"""nestweigh/names.py: points [2], [3], [6], [7] and [8]."""

import unittest

from nestweigh.errors import BadName, BadWeight
from nestweigh.names import (
    MOST_BOXES,
    MOST_SHELVES,
    MOST_WEIGHT,
    fresh_name,
    is_name,
    ordered,
    valid_name,
    valid_weight,
)
from tests.support import Case

GOOD_NAMES = ["a", "z", "m", "a0", "a9", "z0z", "abcdefgh", "z9999999", "a1b2c3d4", "shelf", "in"]
BAD_NAMES = [
    "", "abcdefghi", "a12345678", "A", "aB", "0", "9a", "0a", " ", " a", "a ", "a b", "a-b", "a_b",
    "_a", "a.b", "a\n", "\na", "a\nb", "`", "{", "a`", "a{", "a/", "a:", "@", "a@", "[", "~", "a" * 1000,
]
BAD_WEIGHTS = [0, -1, 1000000001, 10**10, -(10**3999), 10**3999, True, False, None, "", "1", "x"]


class Constants(Case):
    def test_the_limits(self):
        self.assert_same(MOST_WEIGHT, 1000000000)
        self.assert_same(MOST_BOXES, 12)
        self.assert_same(MOST_SHELVES, 4)


class Names(Case):
    """[7]"""

    def test_names(self):
        for name in GOOD_NAMES:
            self.assert_answer(True, is_name, name)

    def test_other_strings(self):
        for text in BAD_NAMES:
            self.assert_answer(False, is_name, text)

    def test_each_character_of_a_text_alone_and_behind_a_letter(self):
        letters = "abcdefghijklmnopqrstuvwxyz"
        for code in [10] + [code for code in range(32, 127) if code != 37]:
            mark = chr(code)
            self.assert_same(is_name(mark), mark in letters)
            self.assert_same(is_name("q" + mark), mark in letters + "0123456789")

    def test_lengths(self):
        for length in range(12):
            self.assert_same(is_name("b" * length), 1 <= length <= 8)
            self.assert_same(is_name("b" + "7" * length), length <= 7)

    def test_valid_name_returns_the_name(self):
        for name in GOOD_NAMES:
            self.assert_answer(name, valid_name, name)

    def test_valid_name_raises(self):
        for text in BAD_NAMES:
            self.assert_error(BadName, {"name": text}, valid_name, text)


class Weights(Case):
    """[8] and [2]"""

    def test_own_weights(self):
        for weight in [1, 2, 7, 999999999, 1000000000]:
            self.assert_answer(weight, valid_weight, weight)

    def test_other_values(self):
        for weight in BAD_WEIGHTS:
            self.assert_error(BadWeight, {"weight": weight}, valid_weight, weight)


class Ordered(Case):
    """[6] the order of names, and [3] the first faulty item"""

    def test_the_order_and_the_duplicates(self):
        self.assert_answer([], ordered, [])
        self.assert_answer([], ordered, ())
        self.assert_answer(["a"], ordered, ["a", "a"])
        self.assert_answer(["a", "b", "c"], ordered, ("c", "a", "b", "a", "c"))

    def test_digits_before_letters_and_a_prefix_before_a_longer_name(self):
        wanted = ["a", "a1", "a10", "a2", "aa", "ab", "b"]
        self.assert_answer(wanted, ordered, ["b", "ab", "a2", "a10", "aa", "a1", "a"])

    def test_the_first_item_that_is_not_a_name(self):
        self.assert_error(BadName, {"name": "B"}, ordered, ["c", "B", "A", "b"])
        self.assert_error(BadName, {"name": ""}, ordered, ("z", "", "0"))

    def test_a_thousand_names(self):
        names = [f"n{number}" for number in range(1000)]
        self.assert_answer(sorted(names), ordered, names)
        self.assert_answer(["a"], ordered, ["a"] * 1000)
        self.assert_error(BadName, {"name": "N"}, ordered, names[:999] + ["N"])

    def test_the_answer_is_not_the_argument(self):
        names = ["a", "b"]
        self.assertIsNot(ordered(names), names)


class FreshNames(Case):
    def test_the_first_number_that_is_not_taken(self):
        self.assert_answer("z0", fresh_name, [])
        self.assert_answer("z0", fresh_name, ())
        self.assert_answer("z0", fresh_name, ["z", "z00", "z1", "a0"])
        self.assert_answer("z1", fresh_name, ["z0"])
        self.assert_answer("z1", fresh_name, ("z2", "z0"))
        self.assert_answer("z3", fresh_name, ["z1", "z0", "z2", "z4"])

    def test_from_nine_to_ten_and_to_a_hundred(self):
        taken = [f"z{number}" for number in range(100)]
        self.assert_answer("z10", fresh_name, taken[:10])
        self.assert_answer("z100", fresh_name, taken)
        self.assert_answer("z100", fresh_name, list(reversed(taken)))

    def test_another_stem(self):
        self.assert_answer("box0", fresh_name, ["z0"], stem="box")
        self.assert_answer("a1", fresh_name, ["a0"], stem="a")
        self.assert_answer("a10", fresh_name, [], stem="a1")
        self.assert_answer("abcde0", fresh_name, [], stem="abcde")

    def test_what_is_taken_need_not_be_names(self):
        self.assert_answer("z1", fresh_name, ["", "Z0", "z0", "z 1", "abcdefghij"])

    def test_stems_that_are_not_names_or_too_long(self):
        for stem in ["", "Z", "0", "a b", "abcdef", "abcdefgh", "abcdefghi", "a-"]:
            self.assert_error(BadName, {"name": stem}, fresh_name, [], stem=stem)
            self.assert_error(BadName, {"name": stem}, fresh_name, ["z0", "A"], stem=stem)


if __name__ == "__main__":
    unittest.main()
