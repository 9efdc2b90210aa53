"""Points 7.1 to 7.6 and 16.4: heaviest lots of one family, and what shows that they are."""

import unittest
from itertools import combinations
from random import Random

from bothfree.errors import BadLot, BadNumber, BadWeights, NoThing, NotBase
from bothfree.families import Family, alike, bases
from bothfree.one import (all_heaviest, base_fault, free_fault, heaviest_base, heaviest_free, heaviest_of, moves,
                          number_fault, second, weight)
from bothfree.webs import Web, ties_family
from tests.helpers import (NAMES, ODD_VALUES, Telling, even, heaviest_of_all, lots_of, nested, some_weights,
                           triangle_web)
from tests.makings import some_families

RING = {"x": 5, "y": 3, "z": 3}


def ring():
    """Return the family of the document's example."""
    return ties_family(Web(["a", "b", "c"], {"x": ("a", "b"), "y": ("b", "c"), "z": ("a", "c")}))


def samples(step=1):
    """Yield families, the same ones by plain search, and weights."""
    chance = Random(7)
    for at, (family, searched) in enumerate(some_families()):
        for weights in some_weights(family.things(), chance)[at % step::step]:
            yield family, searched, weights


def heft(weights, lot):
    return sum(weights[thing] for thing in lot)


def short_level(searched, weights, lot, levels, most):
    """Return the fault of the greatest of some levels that has too few things of a lot, or None."""
    for low in sorted(levels, reverse=True):
        rank = searched.rank([thing for thing in weights if weights[thing] >= low])
        if len([thing for thing in lot if weights[thing] >= low]) < min(most, rank):
            return "level", low
    return None


class Wrong(Telling):
    """Sees to it that calls with wrong weights are refused ahead of all else."""

    def assert_weights_first(self, call, *further):
        for weights, thing in (({}, "x"), ({"x": 1, "y": 1}, "z"), ({**RING, "a": 1}, "a"), ({**RING, "": 1}, ""),
                               ({"x": 1, "y": True, "z": None}, "y"), ({"x": nested(list), "y": 1, "z": 1}, "x")):
            self.raises(BadWeights(thing), call, ring(), weights, *further)


class Point_7_1(unittest.TestCase, Wrong):
    def test_weights_are_added_up(self):
        self.assertEqual([weight(ring(), RING, lot) for lot in ([], ["x"], ["z", "x"], ["x", "y", "z"])], [0, 5, 8, 11])
        great = {"x": 10 ** 60, "y": -10 ** 60, "z": -1}
        self.assertEqual(weight(ring(), great, ["z", "y", "x"]), -1)
        self.assertEqual(weight(even(0, 0), {}, []), 0)

    def test_wrong_weights_and_lots(self):
        self.assert_weights_first(weight, ["q", "q"])
        self.raises(BadLot(1), weight, ring(), RING, ["x", "x"])
        self.raises(BadLot(0), weight, ring(), RING, ["q"])


class Point_7_2(unittest.TestCase, Wrong):
    def test_heaviest_lots_by_plain_search(self):
        for family, searched, weights in samples():
            free = searched.free_lots()
            base = heaviest_base(family, weights)
            self.assertIn(base, heaviest_of_all(searched.bases(), weights))
            self.assertIn(heaviest_free(family, weights), heaviest_of_all(free, weights))
            for k in range(len(base) + 3):
                lots = [lot for lot in free if len(lot) == k]
                told = heaviest_of(family, weights, k)
                if lots:
                    self.assertIn(told, heaviest_of_all(lots, weights))
                else:
                    self.assertIsNone(told)

    def test_weights_below_0(self):
        weights = {"x": -5, "y": -1, "z": -3}
        self.assertEqual((heaviest_base(ring(), weights), heaviest_free(ring(), weights)), (["y", "z"], []))
        self.assertEqual([heaviest_of(ring(), weights, k) for k in range(4)], [[], ["y"], ["y", "z"], None])

    def test_24_things(self):
        weights = {name: (7 * at) % 24 - 12 for at, name in enumerate(NAMES[:24])}
        order = sorted(weights, key=weights.get, reverse=True)
        self.assertEqual(heaviest_base(even(24, 15), weights), sorted(order[:15]))
        self.assertEqual(heaviest_of(even(24, 15), weights, 4), sorted(order[:4]))
        self.assertEqual(heft(weights, heaviest_free(even(24, 15), weights)), 66)

    def test_the_order_of_the_keys_means_nothing(self):
        turned = {thing: RING[thing] for thing in reversed(RING)}
        for call in (heaviest_base, heaviest_free):
            self.assertEqual(call(ring(), turned), call(ring(), RING))
        self.assertEqual(heaviest_of(ring(), turned, 2), heaviest_of(ring(), RING, 2))

    def test_wrong_weights_and_numbers(self):
        self.assert_weights_first(heaviest_base)
        self.assert_weights_first(heaviest_free)
        self.assert_weights_first(heaviest_of, None)
        for k in [-1, -10 ** 30, "1", [1], (1,), nested(list), *ODD_VALUES]:
            self.raises(BadNumber(k), heaviest_of, ring(), RING, k)
        self.assertIsNone(heaviest_of(ring(), RING, 10 ** 30))


class Point_7_3(unittest.TestCase, Wrong):
    def test_document_example(self):
        self.assertEqual(base_fault(ring(), RING, ["y", "z"]), ("level", 5))
        self.assertEqual([base_fault(ring(), RING, lot) for lot in (["x", "y"], ["z", "x"])], [None, None])

    def test_bases_by_plain_search(self):
        for family, searched, weights in samples(2):
            known = searched.bases()
            heaviest = heaviest_of_all(known, weights)
            for lot in lots_of(searched.things):
                fault = base_fault(family, weights, lot[::-1])
                self.assertIs(fault is None, lot in heaviest)
                right = short_level(searched, weights, lot, set(weights.values()), 99) if lot in known else ("base",)
                self.assertEqual(fault, right)

    def test_free_lots_by_plain_search(self):
        for family, searched, weights in samples(2):
            heaviest = heaviest_of_all(searched.free_lots(), weights)
            for lot in lots_of(searched.things):
                fault = free_fault(family, weights, lot[::-1])
                # A heaviest free lot may have things of the weight 0, but the judge must not mind them.
                self.assertIs(fault is None, lot in heaviest)
                right = ("free",)
                if searched.is_free(lot):
                    above = {worth for worth in weights.values() if worth > 0}
                    below = [("below", thing) for thing in lot if weights[thing] < 0]
                    right = short_level(searched, weights, lot, above, 99) or min(below, default=None)
                self.assertEqual(fault, right)

    def test_numbers_by_plain_search(self):
        for family, searched, weights in samples(2):
            free = searched.free_lots()
            for lot in lots_of(searched.things):
                fault = number_fault(family, weights, lot[::-1])
                right = ("free",)
                if lot in free:
                    same = [other for other in free if len(other) == len(lot)]
                    self.assertIs(fault is None, lot in heaviest_of_all(same, weights))
                    right = short_level(searched, weights, lot, set(weights.values()), len(lot))
                self.assertEqual(fault, right)

    def test_faults_of_each_kind(self):
        weights = {"x": 2, "y": 0, "z": -1}
        self.assertEqual([free_fault(ring(), weights, lot) for lot in ([], ["x"], ["x", "y"], ["z", "x"], ["z"])],
                         [("level", 2), None, None, ("below", "z"), ("level", 2)])
        self.assertEqual([base_fault(ring(), weights, lot) for lot in (["x"], ["x", "z"], ["y", "z"])],
                         [("base",), ("level", 0), ("level", 2)])
        self.assertEqual([number_fault(ring(), weights, lot) for lot in ([], ["y"], ["z", "x"], ["x", "y", "z"])],
                         [None, ("level", 2), ("level", 0), ("free",)])
        self.assertEqual(free_fault(ring(), {"x": -1, "y": -1, "z": -2}, ["z", "y"]), ("below", "y"))

    def test_values_of_any_kind(self):
        for value in [*ODD_VALUES, 5, "xy", ("x", "y"), {"x": 1, "y": 1}, {"x", "y"}, ["x", "x"], ["x", "q"], ["x", None],
                      ["x", 1], [["x"], ["y"]], ["x", ("y",)], ["x", {"y": 1}], [nested(tuple), "x"], nested(list),
                      nested(tuple)]:
            self.assertEqual(base_fault(ring(), RING, value), ("base",), value)
            self.assertEqual(free_fault(ring(), RING, value), ("free",), value)
            self.assertEqual(number_fault(ring(), RING, value), ("free",), value)

    def test_no_things(self):
        for judge in (base_fault, free_fault, number_fault):
            self.assertIsNone(judge(even(0, 0), {}, []))

    def test_wrong_weights(self):
        for judge in (base_fault, free_fault, number_fault):
            self.assert_weights_first(judge, None)
            self.assert_weights_first(judge, ["x", "y"])


class Point_7_4(unittest.TestCase, Wrong):
    def test_the_bases_are_the_heaviest_bases(self):
        for family, searched, weights in samples():
            made = all_heaviest(family, weights)
            self.assertIsInstance(made, Family)
            self.assertEqual(made.things(), family.things())
            self.assertEqual(bases(made), heaviest_of_all(searched.bases(), weights))

    def test_ranks_by_weights(self):
        for family, searched, weights in samples(3):
            made = all_heaviest(family, weights)
            for lot in lots_of(searched.things):
                total = 0
                for worth in set(weights.values()):
                    above = [thing for thing in weights if weights[thing] > worth]
                    same = [thing for thing in lot if weights[thing] == worth]
                    total += searched.rank(above + same) - searched.rank(above)
                self.assertEqual(made.rank(lot[::-1]), total)

    def test_what_was_passed_is_not_kept(self):
        weights = dict(RING)
        made = all_heaviest(ring(), weights)
        weights["x"] = -5
        self.assertEqual(bases(made), [["x", "y"], ["x", "z"]])

    def test_earlier_questions_mean_nothing(self):
        made = all_heaviest(ring(), RING)
        for _ in range(2):
            for lot in lots_of(["x", "y", "z"]):
                self.assertEqual(made.rank(lot), all_heaviest(ring(), RING).rank(lot))

    def test_wrong_weights(self):
        self.assert_weights_first(all_heaviest)


class Point_7_5(unittest.TestCase, Wrong):
    def test_document_example(self):
        self.assertEqual(moves(ring(), RING, ["x", "y"], "x"), (3, None))
        self.assertEqual(moves(ring(), RING, ["x", "y"], "z"), (None, 3))
        self.assertEqual(moves(ring(), RING, ["y", "x"], "y"), (3, None))

    def test_just_within_these_bounds_the_base_stays_a_heaviest_one(self):
        for family, searched, weights in samples(3):
            known = searched.bases()
            for lot in heaviest_of_all(known, weights):
                for thing in searched.things:
                    told = moves(family, weights, lot[::-1], thing)
                    self.assertIsInstance(told, tuple)
                    self.assert_bounds(known, weights, lot, thing, told)

    def assert_bounds(self, known, weights, lot, thing, told):
        low, high = told
        tried = {worth + more for worth in weights.values() for more in (-1, 0, 1)} | {-10 ** 40, 10 ** 40}
        for worth in tried:
            stays = lot in heaviest_of_all(known, {**weights, thing: worth})
            self.assertIs(stays, (low is None or low <= worth) and (high is None or worth <= high))

    def test_sure_and_stuck_things(self):
        family = ties_family(Web(["a", "b"], {"x": ("a", "b"), "l": ("a", "a")}))
        weights = {"x": -4, "l": 9}
        self.assertEqual([moves(family, weights, ["x"], thing) for thing in ("x", "l")], [(None, None)] * 2)

    def test_errors_in_their_order(self):
        self.assert_weights_first(moves, ["q"], "q")
        self.raises(BadLot(1), moves, ring(), RING, ["x", "x"], "q")
        self.raises(BadLot(0), moves, ring(), RING, ["q"], "q")
        for lot in (["y", "z"], ["x"], [], ["x", "y", "z"]):
            self.raises(NotBase(), moves, ring(), RING, lot, "q")
        for thing in ("q", "", "X", "abcdefghi"):
            self.raises(NoThing(thing), moves, ring(), RING, ["x", "y"], thing)


class Point_7_6(unittest.TestCase, Wrong):
    def test_document_example(self):
        self.assertEqual(second(ring(), RING, ["x", "y"]), ["x", "z"])
        self.assertEqual(second(ring(), RING, ["z", "x"]), ["x", "y"])

    def test_all_bases_by_plain_search(self):
        for family, searched, weights in samples(2):
            for lot in searched.bases():
                others = [base for base in searched.bases() if base != lot]
                told = second(family, weights, lot[::-1])
                if others:
                    self.assertIn(told, heaviest_of_all(others, weights))
                else:
                    self.assertIsNone(told)

    def test_behind_a_base_that_is_not_a_heaviest_one(self):
        self.assertIn(second(ring(), RING, ["y", "z"]), (["x", "y"], ["x", "z"]))
        weights = {name: at for at, name in enumerate(NAMES[:24])}
        self.assertEqual(second(even(24, 10), weights, NAMES[:10]), NAMES[14:24])
        self.assertEqual(second(even(24, 10), weights, NAMES[14:24]), ["n"] + NAMES[15:24])

    def test_errors_in_their_order(self):
        self.assert_weights_first(second, ["q"])
        self.raises(BadLot(1), second, ring(), RING, ["x", "x"])
        for lot in ([], ["x"], ["x", "y", "z"]):
            self.raises(NotBase(), second, ring(), RING, lot)


class Point_16_4(unittest.TestCase):
    def test_heaviest_bases_have_enough_things_of_each_weight(self):
        for family, searched, weights in samples(2):
            heaviest = heaviest_of_all(searched.bases(), weights)
            for lot in searched.free_lots():
                enough = short_level(searched, weights, lot, set(weights.values()), 99) is None
                self.assertIs(enough, lot in heaviest)

    def test_only_weights_above_0_count_for_a_heaviest_free_lot(self):
        for family, searched, weights in samples(2):
            told = heaviest_free(family, weights)
            above = {thing: max(0, worth) for thing, worth in weights.items()}
            self.assertEqual(heft(weights, told), heft(above, heaviest_base(family, above)))
            self.assertFalse([thing for thing in told if weights[thing] < 0])

    def test_heaviest_of_the_heaviest(self):
        weights = dict(zip(NAMES[:6], (4, 2, 2, 2, 2, 1)))
        further = dict(zip(NAMES[:6], (0, 1, 5, 3, 3, 9)))
        known = [list(lot) for lot in combinations(NAMES[:6], 3)]
        made = all_heaviest(all_heaviest(even(6, 3), weights), further)
        self.assertEqual(bases(made), heaviest_of_all(heaviest_of_all(known, weights), further))
        both = {thing: 100 * weights[thing] + further[thing] for thing in weights}
        self.assertIsNone(alike(made, all_heaviest(even(6, 3), both)))

    def test_stuck_ties_are_in_no_heaviest_base(self):
        weights = {"x": 1, "y": 1, "z": 1, "l": 10 ** 9}
        self.assertEqual(heaviest_base(ties_family(triangle_web()), weights), ["x", "y"])
        self.assertEqual(all_heaviest(ties_family(triangle_web()), weights).stuck(), ["l"])


if __name__ == "__main__":
    unittest.main()
