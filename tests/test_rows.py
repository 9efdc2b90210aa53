"""Points 5.1 to 5.5: rows of integers, nought sums, and rows across one another."""

import unittest
from itertools import product
from math import gcd

from bothfree.errors import BadLot, BadRows, InLot, NoThing, TooMany, UnlikeThings
from bothfree.families import Family, bases
from bothfree.rows import Rows, is_across, rows_family, sum_fault, sum_of, turned_rows, written
from tests.helpers import (NAMES, ODD_VALUES, Telling, lots_of, nested, no_sum_is_nought, searched_rows, slopes, some_rows)


def row_of(rows, terms):
    """Return the row of a sum."""
    totals = [sum(terms[thing] * rows.row(thing)[place] for thing in terms) for place in range(rows.width())]
    return [total % 2 for total in totals] if rows.over() == "two" else totals


def fault_of(rows, lot, given):
    """Judge a value of any kind as sum_fault is to do it, word by word."""
    if not isinstance(given, dict) or not given or any(thing not in lot for thing in given):
        return "form"
    for integer in given.values():
        if integer.__class__ is not int or integer == 0 or (rows.over() == "two" and integer != 1):
            return "form"
    if gcd(*given.values()) != 1:
        return "divisor"
    return "row" if any(row_of(rows, given)) else None


def identity(many, *, over):
    return Rows({name: [int(at == place) for place in range(many)] for at, name in enumerate(NAMES[:many])}, over=over)


class Point_5_1(unittest.TestCase, Telling):
    def test_what_rows_tell(self):
        rows = Rows({"b": [0, -10 ** 50], "a": [3, 4]}, over="whole")
        self.assertEqual((rows.things(), rows.width(), rows.over()), (["a", "b"], 2, "whole"))
        self.assertEqual((rows.rows(), rows.row("b")), ({"a": [3, 4], "b": [0, -10 ** 50]}, [0, -10 ** 50]))

    def test_no_things_and_no_width(self):
        for over in ("two", "whole"):
            rows = Rows({}, over=over)
            self.assertEqual((rows.things(), rows.rows(), rows.width(), rows.over()), ([], {}, 0, over))
            rows = Rows({"a": [], "b": []}, over=over)
            self.assertEqual((rows.rows(), rows.row("a"), rows.width()), ({"a": [], "b": []}, [], 0))

    def test_over_is_passed_by_name(self):
        with self.assertRaises(TypeError):
            Rows({}, "two")
        with self.assertRaises(TypeError):
            Rows({})

    def test_24_keys_and_25(self):
        self.assertEqual(len(Rows({name: [] for name in NAMES[:24]}, over="two").things()), 24)
        self.refuses(TooMany(24), {name: [] for name in NAMES[:25]})
        self.refuses(TooMany(24), {f"A{name}": None for name in NAMES[:25]})

    def test_24_integers_and_25(self):
        self.assertEqual(Rows({"a": [1] * 24, "b": [0] * 24}, over="two").width(), 24)
        self.refuses(BadRows("a"), {"a": [1] * 25, "b": [1] * 25})
        self.refuses(BadRows("b"), {"a": [1] * 24, "b": [1] * 25})

    def test_wrong_keys(self):
        for key in ("", "abcdefghi", "A", "a b", "a1", "a\n"):
            self.refuses(BadRows(key), {key: [1], "zz": None})
        self.refuses(BadRows("a1"), {"a": [1], "a1": [1], "aa": [True]})

    def test_values_of_any_kind(self):
        for value in [*ODD_VALUES, 5, (1,), "1", [True], ["1"], [None], [[1]], [nested(tuple)], nested(list)]:
            self.refuses(BadRows("b"), {"a": [1], "b": value, "c": []})
            self.refuses(BadRows("b"), {"b": value, "c": []})

    def test_lengths_are_those_of_the_least_key(self):
        self.refuses(BadRows("c"), {"c": [1], "b": [1, 0], "a": [0, 1], "d": []})
        self.refuses(BadRows("b"), {"c": [1], "b": [], "a": [0]})
        self.refuses(BadRows("a"), {"a": None, "b": [1]})

    def test_over_two_there_is_0_and_1_alone(self):
        for wrong in (2, -1, True, False, 10 ** 30):
            self.raises(BadRows("b"), lambda: Rows({"a": [1, 0], "b": [1, wrong], "c": [2, 2]}, over="two"))
        self.assertEqual(Rows({"a": [1, 0], "b": [1, 2]}, over="whole").row("b"), [1, 2])

    def test_row_of_nothing(self):
        for name in ("d", "", "A", "abcdefghi"):
            self.raises(NoThing(name), slopes().row, name)

    def test_equal_rows(self):
        one = Rows({"a": [1, 0], "b": [0, 1]}, over="two")
        self.assertTrue(one == Rows({"b": [0, 1], "a": [1, 0]}, over="two"))
        self.assertFalse(one != Rows({"b": [0, 1], "a": [1, 0]}, over="two"))
        self.assertTrue(Rows({}, over="two") == Rows({}, over="two"))
        for other in (Rows({"a": [1, 0], "b": [0, 1]}, over="whole"), Rows({"a": [1, 0]}, over="two"),
                      Rows({"a": [1, 0], "b": [1, 1]}, over="two"), Rows({"a": [1, 0], "c": [0, 1]}, over="two"),
                      Rows({"a": [], "b": []}, over="two")):
            self.assertFalse(one == other)
            self.assertTrue(one != other)
        self.assertFalse(Rows({}, over="two") == Rows({}, over="whole"))
        for value in [*ODD_VALUES, {"a": [1, 0], "b": [0, 1]}, nested(list), 1]:
            self.assertFalse(one == value)

    def test_methods_stand_in_the_class_itself(self):
        for name in ("things", "rows", "row", "width", "over", "__eq__"):
            self.assertIn(name, vars(Rows))

    def refuses(self, error, rows):
        for over in ("two", "whole"):
            self.raises(error, lambda: Rows(rows, over=over))


class Point_5_2(unittest.TestCase):
    def test_those_lots_are_free_of_which_no_sum_is_nought(self):
        for rows in some_rows():
            family = rows_family(rows)
            self.assertIsInstance(family, Family)
            self.assertEqual(family.things(), rows.things())
            for lot in lots_of(rows.things()):
                self.assertIs(family.is_free(lot), no_sum_is_nought(rows, lot))

    def test_small_sums_over_whole(self):
        rows = Rows({"a": [1, 2], "b": [2, 1], "c": [3, 3], "d": [2, 4]}, over="whole")
        for lot in lots_of(rows.things()):
            sums = [dict(zip(lot, terms)) for terms in product(range(-4, 5), repeat=len(lot)) if any(terms)]
            self.assertIs(rows_family(rows).is_free(lot), not any(not any(row_of(rows, terms)) for terms in sums))

    def test_two_and_whole_are_unlike(self):
        table = {"a": [1, 1, 0], "b": [1, 0, 1], "c": [0, 1, 1]}
        self.assertFalse(rows_family(Rows(table, over="two")).is_free(["a", "b", "c"]))
        self.assertTrue(rows_family(Rows(table, over="whole")).is_free(["a", "b", "c"]))

    def test_rows_without_width_are_stuck(self):
        for over in ("two", "whole"):
            family = rows_family(Rows({"b": [], "a": []}, over=over))
            self.assertEqual((family.stuck(), family.base(), bases(family)), (["a", "b"], [], [[]]))

    def test_great_integers(self):
        great = 10 ** 200
        rows = Rows({"a": [great, great + 1], "b": [great + 1, great + 2], "c": [2 * great + 1, 2 * great + 3],
                     "d": [-7 * great, -7 * great - 7]}, over="whole")
        self.assertEqual(bases(rows_family(rows)), [["a", "b"], ["a", "c"], ["b", "c"], ["b", "d"], ["c", "d"]])

    def test_24_things_and_24_places(self):
        for over in ("two", "whole"):
            self.assertEqual(rows_family(identity(24, over=over)).rank(NAMES[:24]), 24)
        powers = {name: [(at + 1) ** place for place in range(12)] for at, name in enumerate(NAMES[:24])}
        family = rows_family(Rows(powers, over="whole"))
        self.assertEqual((family.rank(NAMES[:24]), family.is_free(NAMES[5:17]), family.base()), (12, True, NAMES[:12]))


class Point_5_3(unittest.TestCase, Telling):
    def test_document_examples(self):
        self.assertEqual(sum_of(slopes(), ["a", "b", "c"]), {"a": 2, "b": 4, "c": -1})
        rows = Rows({"a": [1, 0], "b": [0, 1], "c": [0, 0]}, over="two")
        self.assertEqual((rows_family(rows).stuck(), sum_of(rows, ["c"])), (["c"], {"c": 1}))
        self.assertIsNone(sum_of(slopes(), ["a", "b"]))

    def test_a_lot_is_free_or_has_a_sum(self):
        for rows in some_rows():
            for lot in lots_of(rows.things()):
                given = sum_of(rows, lot[::-1])
                if no_sum_is_nought(rows, lot):
                    self.assertIsNone(given)
                else:
                    self.assertIsNone(fault_of(rows, lot, given))
                    self.assertIsNone(sum_fault(rows, lot, given))

    def test_great_integers_and_24_rows(self):
        great = 10 ** 60
        rows = Rows({"a": [great, 0], "b": [0, great], "c": [2 * great, 4 * great]}, over="whole")
        self.assertIsNone(fault_of(rows, ["a", "b", "c"], sum_of(rows, ["a", "b", "c"])))
        powers = {name: [(at + 1) ** place for place in range(23)] for at, name in enumerate(NAMES[:24])}
        rows = Rows(powers, over="whole")
        given = sum_of(rows, NAMES[:24])
        self.assertIsNone(fault_of(rows, NAMES[:24], given))
        self.assertEqual(sorted(given), NAMES[:24])

    def test_wrong_lots(self):
        for lot, index in ((["x"], 0), (["a", "a"], 1), (["a", "b", ""], 2)):
            self.raises(BadLot(index), sum_of, slopes(), lot)
            self.raises(BadLot(index), sum_fault, slopes(), lot, None)

    def test_right_sums_in_any_order(self):
        for given in ({"c": 1, "a": -2, "b": -4}, {"b": 4, "c": -1, "a": 2}):
            self.assertIsNone(sum_fault(slopes(), ["c", "a", "b"], given))

    def test_forms(self):
        lot = ["a", "b", "c"]
        for given in [*ODD_VALUES, {}, [], 5, nested(list), nested(tuple), {"x": 1}, {1: 1}, {b"a": 1}, {None: 1},
                      {("a",): 1}, {nested(tuple): 1}, {"a": 0}, {"a": True}, {"a": "1"}, {"a": None}, {"a": [1]},
                      {"a": nested(list)}, {"a": 2, "b": 4, "c": -1, "d": 0}, {"a": 2, "b": 0}, [("a", 2)]]:
            if given != {"a": 1}:
                self.assertEqual(sum_fault(slopes(), lot, given), "form", given)
        self.assertEqual(sum_fault(slopes(), ["a", "b"], {"a": 2, "b": 4, "c": -1}), "form")
        self.assertEqual(sum_fault(slopes(), [], {}), "form")

    def test_over_two_the_integers_are_1(self):
        rows = Rows({"a": [1], "b": [1], "c": [0]}, over="two")
        for integer in (-1, 2, 3, 0, True):
            self.assertEqual(sum_fault(rows, ["a", "b"], {"a": 1, "b": integer}), "form")
        self.assertIsNone(sum_fault(rows, ["a", "b"], {"a": 1, "b": 1}))
        self.assertEqual(sum_fault(rows, ["a", "b", "c"], {"a": 1, "c": 1}), "row")

    def test_divisors_come_ahead_of_rows(self):
        lot = ["a", "b", "c"]
        self.assertEqual(sum_fault(slopes(), lot, {"a": 4, "b": 8, "c": -2}), "divisor")
        self.assertEqual(sum_fault(slopes(), lot, {"a": 4, "b": -2}), "divisor")
        self.assertEqual(sum_fault(slopes(), lot, {"a": 2}), "divisor")
        self.assertEqual(sum_fault(slopes(), lot, {"a": -3 * 10 ** 40, "b": 6, "c": 9}), "divisor")
        self.assertEqual(sum_fault(slopes(), lot, {"a": -1}), "row")
        stuck = Rows({"a": [0, 0], "b": [0, 0]}, over="whole")
        self.assertEqual(sum_fault(stuck, ["a"], {"a": -2}), "divisor")
        self.assertEqual([sum_fault(stuck, ["a", "b"], {"a": sign, "b": -5}) for sign in (1, -1)], [None, None])

    def test_rows_that_are_not_nought(self):
        lot = ["a", "b", "c"]
        for given in ({"a": 2, "b": 4, "c": 1}, {"a": 2, "b": 3, "c": -1}, {"a": 1, "b": 4, "c": -1}, {"c": 1}):
            self.assertEqual(sum_fault(slopes(), lot, given), "row")

    def test_all_small_values_are_judged(self):
        for rows in some_rows():
            if len(rows.things()) < 5:
                for terms in product((-2, -1, 0, 1, 3), repeat=len(rows.things())):
                    given = {thing: term for thing, term in zip(rows.things(), terms) if term}
                    for lot in (rows.things(), rows.things()[1:]):
                        self.assertEqual(sum_fault(rows, lot, given), fault_of(rows, lot, given))


class Point_5_4(unittest.TestCase, Telling):
    def test_document_example(self):
        self.assertEqual(written(slopes(), ["a", "b"], "c"), (1, {"a": 2, "b": 4}))
        self.assertIsNone(written(slopes(), ["a"], "c"))

    def test_every_thing_is_written_or_not_in_the_span(self):
        for rows in some_rows():
            searched = searched_rows(rows)
            for lot in lots_of(rows.things()):
                for thing in rows.things():
                    if thing not in lot:
                        told = written(rows, lot[::-1], thing)
                        self.assertIs(told is not None, searched.rank([*lot, thing]) == searched.rank(lot))
                        if told is not None:
                            self.assert_written(rows, lot, thing, told)

    def assert_written(self, rows, lot, thing, told):
        self.assertIsInstance(told, tuple)
        number, terms = told
        self.assertEqual((number.__class__, terms.__class__), (int, dict))
        self.assertTrue(set(terms) <= set(lot))
        self.assertTrue(number >= 1 and 0 not in terms.values())
        if rows.over() == "two":
            self.assertEqual((number, set(terms.values()) <= {1}), (1, True))
        self.assertEqual(gcd(number, *terms.values()), 1)
        self.assertEqual([number * entry for entry in rows.row(thing)], row_of(rows, terms))

    def test_a_free_lot_has_one_such_pair(self):
        rows = Rows({"a": [6, 0], "b": [0, 10], "c": [4, 15], "d": [-4, 0]}, over="whole")
        self.assertEqual(written(rows, ["a", "b"], "c"), (6, {"a": 4, "b": 9}))
        self.assertEqual(written(rows, ["b", "a"], "d"), (3, {"a": -2}))
        self.assertEqual(written(rows, ["d"], "a"), (2, {"d": -3}))

    def test_zeros_are_written_by_nothing(self):
        for over in ("two", "whole"):
            rows = Rows({"a": [0, 0], "b": [1, 0]}, over=over)
            self.assertEqual((written(rows, [], "a"), written(rows, ["b"], "a")), ((1, {}), (1, {})))
            self.assertIsNone(written(rows, ["a"], "b"))
            self.assertEqual(written(Rows({"a": []}, over=over), [], "a"), (1, {}))

    def test_errors_in_their_order(self):
        self.raises(BadLot(1), written, slopes(), ["a", "a"], "a")
        self.raises(BadLot(0), written, slopes(), ["x"], "x")
        self.raises(NoThing("x"), written, slopes(), ["a", "b"], "x")
        self.raises(NoThing(""), written, slopes(), ["a"], "")
        self.raises(InLot("a"), written, slopes(), ["b", "a"], "a")
        for thing in ("a", "b", "c"):
            self.raises(InLot(thing), written, slopes(), ["c", "b", "a"], thing)


class Point_5_5(unittest.TestCase, Telling):
    def test_document_example(self):
        rows = Rows({"a": [1, 0], "b": [1, 1], "c": [0, 1]}, over="two")
        self.assertEqual(turned_rows(rows).rows(), {"a": [1], "b": [1], "c": [1]})

    def test_turned_rows_are_across_and_of_the_turned_family(self):
        for rows in some_rows():
            turned = turned_rows(rows)
            searched = searched_rows(rows)
            self.assertIsInstance(turned, Rows)
            self.assertEqual((turned.over(), turned.things()), (rows.over(), rows.things()))
            self.assertEqual(turned.width(), len(rows.things()) - searched.rank(rows.things()))
            self.assertTrue(across(rows, turned))
            rests = [[thing for thing in rows.things() if thing not in base] for base in searched.bases()]
            self.assertEqual(searched_rows(turned).bases(), sorted(rests))
            if rows.over() == "whole":
                for place in range(turned.width()):
                    self.assertEqual(gcd(*[turned.row(thing)[place] for thing in turned.things()]), 1)

    def test_widths_of_0_and_24(self):
        for over in ("two", "whole"):
            turned = turned_rows(identity(24, over=over))
            self.assertEqual((turned.width(), turned.rows()), (0, {name: [] for name in NAMES[:24]}))
            again = turned_rows(turned)
            self.assertEqual((again.width(), rows_family(again).rank(NAMES[:24])), (24, 24))
            self.assertTrue(turned_rows(Rows({}, over=over)) == Rows({}, over=over))

    def test_is_across_by_all_products(self):
        for one in some_rows():
            for other in some_rows():
                if one.things() == other.things():
                    self.assertIs(is_across(one, other), across(one, other))
                else:
                    self.raises(UnlikeThings(), is_across, one, other)

    def test_even_numbers_over_two(self):
        one = {"a": [1, 0], "b": [1, 1]}
        other = {"a": [1], "b": [1]}
        self.assertIs(is_across(Rows(other, over="two"), Rows(other, over="two")), True)
        self.assertIs(is_across(Rows(other, over="whole"), Rows(other, over="whole")), False)
        self.assertIs(is_across(Rows(one, over="two"), Rows(other, over="two")), False)
        self.assertIs(is_across(Rows({"a": [1], "b": [1]}, over="whole"), Rows({"a": [5], "b": [-5]}, over="whole")), True)

    def test_not_over_the_same(self):
        nought = {"a": [0], "b": [0]}
        self.assertIs(is_across(Rows(nought, over="two"), Rows(nought, over="whole")), False)
        self.assertIs(is_across(Rows({}, over="two"), Rows({}, over="whole")), False)
        self.raises(UnlikeThings(), is_across, Rows(nought, over="two"), Rows({"a": [0]}, over="whole"))

    def test_no_width_is_across_everything(self):
        for over in ("two", "whole"):
            self.assertIs(is_across(Rows({"a": []}, over=over), Rows({"a": [1, 1]}, over=over)), True)
            self.assertIs(is_across(Rows({}, over=over), Rows({}, over=over)), True)


def across(one, other):
    """Tell whether all sums of products of the integers at two places come to nought."""
    if one.over() != other.over():
        return False
    sums = [sum(one.row(thing)[place] * other.row(thing)[beyond] for thing in one.things())
            for place in range(one.width()) for beyond in range(other.width())]
    return not any(total % 2 if one.over() == "two" else total for total in sums)


if __name__ == "__main__":
    unittest.main()
