"""Points 0.1, 0.5 and 0.6: names, integers, lots, weights and numbers as all parts ask for them."""

import unittest

from bothfree.checks import check_lot, check_number, check_weights, first_wrong, is_integer, is_lot, is_name
from bothfree.errors import BadLot, BadNumber, BadWeights
from tests.helpers import ODD_VALUES, Telling, nested


class Point_0_1(unittest.TestCase):
    def test_names_have_one_to_eight_small_letters(self):
        for name in ("a", "z", "abcdefgh", "zzzzzzzz", "thing"):
            self.assertIs(is_name(name), True, name)

    def test_other_strings_are_no_names(self):
        for word in ("", "abcdefghi", "A", "aB", "a b", " a", "a1", "a_", "a-b", "a\n", "\u00e4", "\u0430", "`", "{"):
            self.assertIs(is_name(word), False, word)

    def test_values_of_other_kinds_are_no_names(self):
        for value in (None, 0, 1, True, b"a", ["a"], ("a",), {"a": 1}, {"a"}, range(3), nested(list), nested(tuple)):
            self.assertIs(is_name(value), False, value)

    def test_integers_are_ints_that_are_no_bools(self):
        for value in (0, 1, -1, 10 ** 40, -10 ** 40):
            self.assertIs(is_integer(value), True, value)
        for value in (True, False, None, "1", b"1", [1], (1,), range(1), {1}):
            self.assertIs(is_integer(value), False, value)


class Point_0_5(unittest.TestCase, Telling):
    def test_a_list_of_different_things_is_a_lot(self):
        for lot in ([], ["a"], ["b", "a"], ["c", "a", "b"]):
            self.assertIsNone(check_lot(lot, ["a", "b", "c"]))

    def test_the_first_wrong_entry_is_told(self):
        self.raises(BadLot(0), check_lot, ["x", "a", "a"], ["a", "b"])
        self.raises(BadLot(1), check_lot, ["a", "a", "x"], ["a", "b"])
        self.raises(BadLot(2), check_lot, ["b", "a", "ab"], ["a", "b"])
        self.raises(BadLot(1), check_lot, ["a", ""], ["a", "b"])

    def test_entries_of_any_kind_are_judged(self):
        for value in [*ODD_VALUES, nested(list), nested(tuple)]:
            self.assertEqual(first_wrong(["a", value, "a"], is_name), 1)

    def test_values_of_any_kind_are_lots_or_not(self):
        for lot in ([], ["a"], ["b", "a"]):
            self.assertIs(is_lot(lot, ["a", "b"]), True, lot)
        for value in [*ODD_VALUES, 1, "ab", ("a",), ["a", "a"], ["c"], [1], [["a"]], ["a", nested(list)], nested(list)]:
            self.assertIs(is_lot(value, ["a", "b"]), False, value)


class Point_0_6(unittest.TestCase, Telling):
    def test_integers_for_just_the_things_are_weights(self):
        self.assertIsNone(check_weights({}, []))
        self.assertIsNone(check_weights({"b": -3, "a": 10 ** 30}, ["a", "b"]))

    def test_the_least_wrong_string_is_told(self):
        self.raises(BadWeights("a"), check_weights, {"b": True, "c": 1}, ["a", "b"])
        self.raises(BadWeights("b"), check_weights, {"b": True, "c": 1, "a": 0}, ["a", "b"])
        self.raises(BadWeights("c"), check_weights, {"b": 1, "c": 1, "a": 0}, ["a", "b"])
        self.raises(BadWeights(""), check_weights, {"": 1, "b": None}, ["a", "b"])
        self.raises(BadWeights("a"), check_weights, {}, ["b", "a"])

    def test_values_of_any_kind_are_no_integers(self):
        for value in [*ODD_VALUES, "1", [1], (1,), nested(list)]:
            self.raises(BadWeights("a"), check_weights, {"a": value}, ["a"])

    def test_numbers_are_integers_from_nought_on(self):
        for number in (0, 1, 24, 10 ** 30):
            self.assertIsNone(check_number(number))
        for value in [-1, -10 ** 30, "1", [1], (0,), nested(tuple), *ODD_VALUES]:
            self.raises(BadNumber(value), check_number, value)
