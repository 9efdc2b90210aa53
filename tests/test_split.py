"""Points 10.1 to 10.5: heaviest lots that are free in both of two families, and weights split in two."""

import unittest
from itertools import product
from random import Random

from bothfree.counts import Counts, counts_family
from bothfree.errors import BadNumber, BadWeights, UnlikeThings
from bothfree.split import best_both, curve, heaviest_both, split, split_fault
from bothfree.turns import free_on
from tests.helpers import NAMES, ODD_VALUES, Telling, even, heaviest_of_all, lots_of, nested, some_weights
from tests.makings import common_lots, pairs_of_families

WEIGHTS = {"a": 2, "b": 3, "c": 2}


def example():
    return (counts_family(Counts(["a", "b", "c"], [(["a", "b"], 1)])),
            counts_family(Counts(["a", "b", "c"], [(["b", "c"], 1)])))


def samples(many):
    """Yield two families, the same ones by plain search, and weights."""
    chance = Random(10)
    for at, ((one, searched), (other, second)) in enumerate(pairs_of_families(many)):
        yield one, other, searched, second, some_weights(one.things(), chance)[at % 6]


def heft(weights, lot):
    return sum(weights[thing] for thing in lot)


def swaps_of(searched, lot):
    """Return the ascending pairs of a thing of a lot and another thing that can take its place."""
    outer = [thing for thing in searched.things if thing not in lot]
    rest = {out: [thing for thing in lot if thing != out] for out in lot}
    return [(out, new) for out in sorted(lot) for new in outer if searched.is_free([*rest[out], new])]


def fault_of(searched, second, weights, lot, first, other):
    """Judge a split as split_fault is to do it, where first and other are dicts from things to integers."""
    for word, family in (("one", searched), ("other", second)):
        if not family.is_free(lot):
            return "free", word
    for thing in searched.things:
        if thing not in first or thing not in other or first[thing] + other[thing] != weights[thing]:
            return "split", thing
    for word, family, parts in (("one", searched, first), ("other", second, other)):
        for out, new in swaps_of(family, lot):
            if parts[new] > parts[out]:
                return word, out, new
    return None


class Wrong(Telling):
    """Sees to it that unlike things and then wrong weights are refused ahead of all else."""

    def assert_families_and_weights_first(self, call, *further):
        for one, other in ((free_on(["a"]), free_on(["b"])), (free_on(["a", "b"]), free_on(["a"])), (free_on([]), even(1, 0))):
            self.raises(UnlikeThings(), call, one, other, {"q": None}, *further)
            self.raises(UnlikeThings(), call, other, one, WEIGHTS, *further)
        one, other = example()
        for weights, thing in (({}, "a"), ({"a": 1, "b": 1}, "c"), ({**WEIGHTS, "q": 1}, "q"), ({**WEIGHTS, "": 1}, ""),
                               ({"a": 1, "b": True, "c": None}, "b"), ({**WEIGHTS, "a": nested(list)}, "a")):
            self.raises(BadWeights(thing), call, one, other, weights, *further)


class Point_10_1(unittest.TestCase, Wrong):
    def test_document_example(self):
        one, other = example()
        told = [heaviest_both(one, other, WEIGHTS, k) for k in range(5)]
        self.assertEqual(told, [(0, []), (3, ["b"]), (4, ["a", "c"]), None, None])

    def test_heaviest_lots_by_plain_search(self):
        for one, other, searched, second, weights in samples(400):
            common = common_lots(searched, second)
            for k in [*range(len(common[-1]) + 2), 24, 25, 10 ** 30]:
                lots = [lot for lot in common if len(lot) == k]
                told = heaviest_both(one, other, weights, k)
                if not lots:
                    self.assertIsNone(told)
                    continue
                self.assertIsInstance(told, tuple)
                self.assertIn(told[1], heaviest_of_all(lots, weights))
                self.assertEqual(told[0], heft(weights, told[1]))

    def test_the_same_family_twice(self):
        weights = {name: 5 - at for at, name in enumerate(NAMES[:9])}
        self.assertEqual(heaviest_both(even(9, 4), even(9, 4), weights, 4), (14, NAMES[:4]))

    def test_no_things_and_24(self):
        self.assertEqual(heaviest_both(free_on([]), free_on([]), {}, 0), (0, []))
        self.assertIsNone(heaviest_both(free_on([]), free_on([]), {}, 1))
        weights = {name: (at * 7) % 24 for at, name in enumerate(NAMES[:24])}
        one = counts_family(Counts(NAMES[:24], [(NAMES[at:at + 2], 1) for at in range(0, 24, 2)]))
        order = sorted(weights, key=weights.get)
        self.assertEqual(heaviest_both(free_on(NAMES[:24]), even(24, 24), weights, 23), (276, sorted(order[1:])))
        best = sum(max(weights[one], weights[other]) for one, other in zip(NAMES[0:24:2], NAMES[1:24:2]))
        self.assertEqual(heaviest_both(one, even(24, 13), weights, 12)[0], best)

    def test_wrong_families_weights_and_numbers(self):
        self.assert_families_and_weights_first(heaviest_both, None)
        one, other = example()
        for k in [-1, -10 ** 30, "1", [1], (1,), nested(list), nested(tuple), *ODD_VALUES]:
            for call in (heaviest_both, split):
                self.raises(BadNumber(k), call, one, other, WEIGHTS, k)


class Point_10_2(unittest.TestCase):
    def test_a_lot_that_a_split_shows_is_a_heaviest_one(self):
        one, other = example()
        common = [lot for lot in lots_of(["a", "b", "c"]) if one.is_free(lot) and other.is_free(lot)]
        for parts in product(range(-1, 4), repeat=3):
            first = dict(zip("abc", parts))
            second = {thing: WEIGHTS[thing] - first[thing] for thing in first}
            for lot in common:
                if split_fault(one, other, WEIGHTS, lot, first, second) is None:
                    same = [alike for alike in common if len(alike) == len(lot)]
                    self.assertIn(lot, heaviest_of_all(same, WEIGHTS))


class Point_10_3(unittest.TestCase, Wrong):
    def test_a_split_shows_all_heaviest_lots_and_no_other_ones(self):
        for one, other, searched, second, weights in samples(400):
            common = common_lots(searched, second)
            for k in range(len(common[-1]) + 2):
                lots = [lot for lot in common if len(lot) == k]
                told = split(one, other, weights, k)
                if not lots:
                    self.assertIsNone(told)
                    continue
                self.assertIsInstance(told, tuple)
                self.assert_shows(told, searched, second, weights, lots)

    def assert_shows(self, told, searched, second, weights, lots):
        first, other = told
        self.assertEqual([sorted(first), sorted(other)], [searched.things] * 2)
        self.assertEqual({thing: first[thing] + other[thing] for thing in first}, weights)
        self.assertTrue(all(part.__class__ is int for part in [*first.values(), *other.values()]))
        tops = []
        for family, parts in ((searched, first), (second, other)):
            free = [lot for lot in family.free_lots() if len(lot) == len(lots[0])]
            tops.append(heaviest_of_all(free, parts))
        heaviest = heaviest_of_all(lots, weights)
        self.assertEqual([lot for lot in lots if lot in tops[0] and lot in tops[1]], heaviest)

    def test_no_things(self):
        self.assertEqual(split(free_on([]), free_on([]), {}, 0), ({}, {}))
        self.assertIsNone(split(free_on([]), free_on([]), {}, 1))

    def test_24_things(self):
        chance = Random(103)
        one = counts_family(Counts(NAMES[:24], [(NAMES[at:at + 4], 2) for at in range(0, 24, 4)]))
        other = counts_family(Counts(NAMES[:24], [(NAMES[at:24:8], 1) for at in range(8)]))
        for weights in some_weights(NAMES[:24], chance):
            for k in (0, 1, 5, 8):
                weight, lot = heaviest_both(one, other, weights, k)
                self.assertEqual((weight, len(lot)), (heft(weights, lot), k))
                self.assertIsNone(split_fault(one, other, weights, lot, *split(one, other, weights, k)))
            self.assertIsNone(split(one, other, weights, 9))

    def test_wrong_families_and_weights(self):
        self.assert_families_and_weights_first(split, None)


class Point_10_4(unittest.TestCase, Wrong):
    def test_document_example(self):
        one, other = example()
        parts = {"a": 2, "b": 2, "c": 0}, {"a": 0, "b": 1, "c": 2}
        self.assertIsNone(split_fault(one, other, WEIGHTS, ["c", "a"], *parts))

    def test_splits_and_splits_bent_at_one_place(self):
        chance = Random(104)
        seen = set()
        for one, other, searched, second, weights in samples(150):
            for lot in lots_of(searched.things):
                first = {thing: chance.randint(-2, 2) for thing in weights}
                rest = {thing: weights[thing] - first[thing] for thing in weights}
                if chance.randint(0, 4) == 0 and weights:
                    del chance.choice([first, rest])[chance.choice(list(weights))]
                if len(lot) < 3 and searched.is_free(lot) and second.is_free(lot) and chance.randint(0, 1):
                    first, rest = split(one, other, weights, len(lot))
                    if weights and chance.randint(0, 2) == 0:
                        thing = chance.choice(list(weights))
                        first[thing], rest[thing] = first[thing] + 1, rest[thing] - chance.randint(0, 1)
                fault = fault_of(searched, second, weights, lot, first, rest)
                seen.add((fault or [None])[0])
                self.assertEqual(split_fault(one, other, weights, lot[::-1], first, rest), fault)
        self.assertEqual(seen, {None, "free", "split", "one", "other"})

    def test_lots_of_any_kind(self):
        one, other = example()
        for lot in [*ODD_VALUES, 1, "ab", ("a",), {"a": 1}, ["a", "a"], ["q"], [""], [1], ["a", None], [["a"]], [("a",)],
                    nested(list), nested(tuple), ["a", nested(list)], [nested(tuple)]]:
            self.assertEqual(split_fault(one, other, WEIGHTS, lot, None, None), ("lot",))

    def test_lots_that_are_not_free(self):
        one, other = example()
        self.assertEqual(split_fault(one, other, WEIGHTS, ["b", "a"], None, None), ("free", "one"))
        self.assertEqual(split_fault(one, other, WEIGHTS, ["c", "b"], None, None), ("free", "other"))
        self.assertEqual(split_fault(one, other, WEIGHTS, ["c", "b", "a"], None, None), ("free", "one"))

    def test_parts_that_are_no_dicts_of_things(self):
        one, other = example()
        first, second = {"a": 2, "b": 2, "c": 0}, {"a": 0, "b": 1, "c": 2}
        wrong = [value for value in ODD_VALUES if not isinstance(value, dict)]
        wrong += [1, [], list(first), tuple(first.items()), nested(list), nested(tuple)]
        wrong += [{**first, key: 1} for key in ("q", "", None, True, 0, b"a", ("a",), nested(tuple), frozenset({"a"}))]
        for value in wrong:
            self.assertEqual(split_fault(one, other, WEIGHTS, ["a"], value, {}), ("split", ""), value)
            self.assertEqual(split_fault(one, other, WEIGHTS, ["a"], {}, value), ("split", ""), value)

    def test_things_that_are_not_split(self):
        one, other = example()
        first, second = {"a": 2, "b": 2, "c": 0}, {"a": 0, "b": 1, "c": 2}
        self.assertEqual(split_fault(one, other, WEIGHTS, ["a"], {}, {}), ("split", "a"))
        for thing in "abc":
            short = {other: first[other] for other in first if other != thing}
            self.assertEqual(split_fault(one, other, WEIGHTS, ["c", "a"], short, second), ("split", thing))
            short = {other: second[other] for other in second if other != thing}
            self.assertEqual(split_fault(one, other, WEIGHTS, ["c", "a"], first, short), ("split", thing))
            self.assertEqual(split_fault(one, other, WEIGHTS, ["c", "a"], {**first, thing: 7}, second), ("split", thing))
            for value in [*ODD_VALUES, "2", [2], (2,), nested(list), nested(tuple)]:
                told = split_fault(one, other, WEIGHTS, ["c", "a"], {**first, thing: value}, second)
                self.assertEqual(told, ("split", thing))
                told = split_fault(one, other, WEIGHTS, ["c", "a"], first, {**second, thing: value})
                self.assertEqual(told, ("split", thing))

    def test_true_is_no_part_of_a_weight(self):
        one, other = free_on(["a"]), free_on(["a"])
        self.assertEqual(split_fault(one, other, {"a": 1}, [], {"a": True}, {"a": 0}), ("split", "a"))
        self.assertEqual(split_fault(one, other, {"a": 1}, [], {"a": 1}, {"a": False}), ("split", "a"))

    def test_the_least_pair_is_told(self):
        one = even(4, 2)
        weights = dict.fromkeys(NAMES[:4], 0)
        parts = {"a": 1, "b": -5, "c": 3, "d": 2}
        negative = {thing: -part for thing, part in parts.items()}
        self.assertEqual(split_fault(one, one, weights, ["b", "a"], parts, negative), ("one", "a", "c"))
        self.assertEqual(split_fault(one, one, weights, ["b", "c"], parts, negative), ("one", "b", "a"))
        self.assertEqual(split_fault(one, one, weights, ["c", "d"], parts, negative), ("other", "c", "a"))
        self.assertEqual(split_fault(one, one, weights, ["d", "b"], negative, parts), ("one", "d", "a"))

    def test_wrong_families_and_weights(self):
        self.assert_families_and_weights_first(split_fault, None, None, None)


class Point_10_5(unittest.TestCase, Wrong):
    def test_document_example(self):
        self.assertEqual(curve(*example(), WEIGHTS), [0, 3, 4])
        self.assertEqual(best_both(*example(), WEIGHTS), (4, ["a", "c"]))

    def test_curves_and_best_lots_by_plain_search(self):
        for one, other, searched, second, weights in samples(400):
            common = common_lots(searched, second)
            told = curve(one, other, weights)
            right = [max(heft(weights, lot) for lot in common if len(lot) == k) for k in range(len(common[-1]) + 1)]
            self.assertEqual(told, right)
            steps = [after - before for before, after in zip(told, told[1:])]
            self.assertEqual(steps, sorted(steps, reverse=True))
            pair = best_both(one, other, weights)
            self.assertIsInstance(pair, tuple)
            self.assertEqual(pair[0], heft(weights, pair[1]))
            self.assertIn(pair[1], heaviest_of_all(common, weights))

    def test_no_things_ranks_of_nought_and_weights_below_0(self):
        self.assertEqual((curve(free_on([]), free_on([]), {}), best_both(free_on([]), free_on([]), {})), ([0], (0, [])))
        weights = dict.fromkeys(NAMES[:5], 3)
        self.assertEqual((curve(even(5, 0), even(5, 3), weights), curve(even(5, 2), even(5, 3), weights)), ([0], [0, 3, 6]))
        weights = {"a": -10 ** 40, "b": -1, "c": -2}
        self.assertEqual(curve(free_on(["a", "b", "c"]), even(3, 3), weights), [0, -1, -3, -3 - 10 ** 40])
        self.assertEqual(best_both(free_on(["a", "b", "c"]), even(3, 3), weights), (0, []))

    def test_wrong_families_and_weights(self):
        self.assert_families_and_weights_first(curve)
        self.assert_families_and_weights_first(best_both)


if __name__ == "__main__":
    unittest.main()
