"""Points 9.1 to 9.6: greatest lots that are free in both of two families, and chains that make lots longer."""

import unittest
from itertools import permutations

from bothfree.both import (both, both_fault, chain_fault, extended, greatest_set, least_set, needed, possible)
from bothfree.counts import Counts, counts_family
from bothfree.errors import BadLot, NotFree, UnlikeThings
from bothfree.turns import cut_short, free_on, turned
from tests.helpers import NAMES, Telling, even, lots_of, searched_counts
from tests.makings import common_lots, pairs_of_families, rest_of


def one_of_example():
    return counts_family(Counts(["a", "b", "c"], [(["a", "b"], 1), (["a", "b", "c"], 2)]))


def other_of_example():
    return counts_family(Counts(["a", "b", "c"], [(["b", "c"], 1)]))


def example():
    return one_of_example(), other_of_example()


def searched_example():
    """Return the two families of the example by plain search."""
    return (searched_counts(Counts(["a", "b", "c"], [(["a", "b"], 1), (["a", "b", "c"], 2)])),
            searched_counts(Counts(["a", "b", "c"], [(["b", "c"], 1)])))


def greatest_lots(searched, second):
    common = common_lots(searched, second)
    return [lot for lot in common if len(lot) == len(common[-1])]


def sum_of_ranks(searched, second, x):
    return searched.rank(x) + second.rank(rest_of(searched.things, x))


def chain_word(searched, second, lot, chain):
    """Judge a list of strings as chain_fault is to do it, word by word, by the words of the document alone."""
    entering, leaving = chain[::2], chain[1::2]
    if len(chain) % 2 == 0:
        return "count"
    if any(thing not in searched.things for thing in chain) or len(set(chain)) < len(chain):
        return "thing"
    if set(entering) & set(lot) or set(leaving) - set(lot):
        return "side"
    if not searched.is_free([*lot, chain[0]]):
        return "begin"
    for ahead, out, behind in zip(entering, leaving, entering[1:]):
        rest = rest_of(lot, [out])
        if not second.is_free([*rest, ahead]) or not searched.is_free([*rest, behind]):
            return "step"
    if not second.is_free([*lot, chain[-1]]):
        return "end"
    longer = rest_of([*lot, *entering], leaving)
    return None if searched.is_free(longer) and second.is_free(longer) else "longer"


class Unlike(Telling):
    """Sees to it that families with unlike things are refused ahead of all else."""

    def assert_unlike_first(self, call, *further):
        for one, other in ((free_on(["a"]), free_on(["b"])), (free_on(["a", "b"]), free_on(["a"])),
                           (free_on([]), free_on(["a"])), (even(24, 3), even(23, 3))):
            self.raises(UnlikeThings(), call, one, other, *further)
            self.raises(UnlikeThings(), call, other, one, *further)


class Point_9_1(unittest.TestCase, Unlike):
    def test_document_example(self):
        lot, x = both(*example())
        self.assertEqual((lot, sum([one_of_example().rank(x), other_of_example().rank(rest_of(["a", "b", "c"], x))])),
                         (["a", "c"], 2))

    def test_lot_and_x_show_one_another(self):
        for (one, searched), (other, second) in pairs_of_families(300):
            told = both(one, other)
            self.assertIsInstance(told, tuple)
            lot, x = told
            self.assertEqual((lot, x), (sorted(set(lot)), sorted(set(x))))
            self.assertIn(lot, greatest_lots(searched, second))
            self.assertEqual(sum_of_ranks(searched, second, x), len(lot))

    def test_the_same_family_twice_and_its_turned_one(self):
        for (one, searched), _ in pairs_of_families(80):
            self.assertIn(both(one, one)[0], searched.bases())
            lot, x = both(one, turned(one))
            self.assertIsNone(both_fault(one, turned(one), lot, x))

    def test_ranks_of_nought(self):
        self.assertEqual(both(even(3, 0), even(3, 2))[0], [])
        self.assertEqual(both(even(24, 12), even(24, 0))[0], [])
        self.assertEqual(both(free_on([]), free_on([])), ([], []))
        self.assertEqual(both(free_on(NAMES[:24]), free_on(NAMES[:24]))[0], NAMES[:24])

    def test_24_things(self):
        # Two and two things next to each other, and two and two things at a distance of twelve, make rings of four.
        one = counts_family(Counts(NAMES[:24], [(NAMES[at:at + 2], 1) for at in range(0, 24, 2)]))
        other = counts_family(Counts(NAMES[:24], [(NAMES[at:24:12], 1) for at in range(12)]))
        lot, x = both(one, other)
        self.assertEqual((len(lot), both_fault(one, other, lot, x)), (12, None))
        lot, x = both(one, cut_short(other, 7))
        self.assertEqual((len(lot), both_fault(one, cut_short(other, 7), lot, x)), (7, None))

    def test_unlike_things(self):
        self.assert_unlike_first(both)


class Point_9_2(unittest.TestCase, Unlike):
    def test_right_pairs_and_all_others(self):
        for (one, searched), (other, second) in pairs_of_families(25):
            lots = lots_of(searched.things)[::3]
            for lot in lots:
                for x in lots:
                    if not searched.is_free(lot):
                        word = "one"
                    elif not second.is_free(lot):
                        word = "other"
                    else:
                        word = None if sum_of_ranks(searched, second, x) == len(lot) else "sum"
                    self.assertEqual(both_fault(one, other, lot[::-1], x[::-1]), word)

    def test_words_in_their_order(self):
        one, other = example()
        self.assertEqual(both_fault(one, other, ["a", "a"], ["q"]), "lot")
        self.assertEqual(both_fault(one, other, ["q"], ["q"]), "lot")
        self.assertEqual(both_fault(one, other, ["", "a"], []), "lot")
        self.assertEqual(both_fault(one, other, ["b", "a"], ["q"]), "one")
        self.assertEqual(both_fault(one, other, ["c", "b", "a"], ["q"]), "one")
        self.assertEqual(both_fault(one, other, ["c", "b"], ["q"]), "other")
        self.assertEqual(both_fault(one, other, ["c", "a"], ["q"]), "x")
        self.assertEqual(both_fault(one, other, ["c", "a"], ["a", "a"]), "x")
        self.assertIsNone(both_fault(one, other, ["c", "a"], []))
        self.assertEqual(both_fault(one, other, ["c"], ["b", "a"]), "sum")
        self.assertIsNone(both_fault(one, other, ["c", "a"], ["b", "a"]))

    def test_unlike_things(self):
        self.assert_unlike_first(both_fault, ["q"], ["q"])


class Point_9_3(unittest.TestCase, Unlike):
    def test_least_and_greatest_of_all_that_reach(self):
        for (one, searched), (other, second) in pairs_of_families(300):
            most = len(greatest_lots(searched, second)[0])
            reach = [set(x) for x in lots_of(searched.things) if sum_of_ranks(searched, second, x) == most]
            self.assertEqual(least_set(one, other), sorted(set.intersection(*reach)))
            self.assertEqual(greatest_set(one, other), sorted(set.union(*reach)))

    def test_sets_of_the_example(self):
        one, other = example()
        reach = [x for x in lots_of(["a", "b", "c"]) if one.rank(x) + other.rank(rest_of(["a", "b", "c"], x)) == 2]
        self.assertIn(least_set(one, other), reach)
        self.assertIn(greatest_set(one, other), reach)
        self.assertEqual((least_set(even(4, 2), even(4, 4)), greatest_set(even(4, 2), even(4, 4))), (NAMES[:4], NAMES[:4]))
        self.assertEqual((least_set(even(4, 4), even(4, 2)), greatest_set(even(4, 4), even(4, 2))), ([], []))
        self.assertEqual((least_set(even(24, 9), even(24, 9)), greatest_set(even(24, 9), even(24, 9))), ([], NAMES[:24]))

    def test_unlike_things(self):
        self.assert_unlike_first(least_set)
        self.assert_unlike_first(greatest_set)


class Point_9_4(unittest.TestCase, Unlike):
    def test_things_of_all_greatest_lots_and_of_some(self):
        for (one, searched), (other, second) in pairs_of_families(400):
            lots = [set(lot) for lot in greatest_lots(searched, second)]
            self.assertEqual(needed(one, other), sorted(set.intersection(*lots)))
            self.assertEqual(possible(one, other), sorted(set.union(*lots)))

    def test_document_example(self):
        self.assertEqual((needed(*example()), possible(*example())), (["a", "c"], ["a", "c"]))

    def test_24_things(self):
        self.assertEqual((needed(even(24, 5), even(24, 8)), possible(even(24, 5), even(24, 8))), ([], NAMES[:24]))
        everything = free_on(NAMES[:24])
        self.assertEqual((needed(everything, everything), possible(everything, everything)), (NAMES[:24], NAMES[:24]))

    def test_unlike_things(self):
        self.assert_unlike_first(needed)
        self.assert_unlike_first(possible)


class Point_9_5(unittest.TestCase, Unlike):
    def test_document_example(self):
        self.assertIsNone(chain_word(*searched_example(), ["b"], ["c", "b", "a"]))
        word, chain, longer = extended(*example(), ["b"])
        self.assertEqual((word, len(longer)), ("more", 2))
        self.assertIsNone(chain_word(*searched_example(), ["b"], chain))

    def test_a_chain_or_a_set_for_each_common_lot(self):
        for (one, searched), (other, second) in pairs_of_families(150):
            most = len(greatest_lots(searched, second)[0])
            for lot in common_lots(searched, second):
                told = extended(one, other, lot[::-1])
                self.assertIsInstance(told, tuple)
                if len(lot) < most:
                    word, chain, longer = told
                    self.assertEqual((word, chain_word(searched, second, lot, chain)), ("more", None))
                    self.assertEqual(longer, sorted(set(lot) ^ set(chain)))
                else:
                    word, x = told
                    self.assertEqual((word, x), ("set", sorted(x)))
                    self.assertEqual(sum_of_ranks(searched, second, x), most)

    def test_errors_in_their_order(self):
        one, other = example()
        for call in (extended, lambda one, other, lot: chain_fault(one, other, lot, [])):
            self.raises(BadLot(1), call, one, other, ["c", "c", "b"])
            self.raises(BadLot(0), call, one, other, ["q", "c", "b"])
            for lot in (["a", "b"], ["c", "b"], ["a", "b", "c"]):
                self.raises(NotFree(), call, one, other, lot)
                self.raises(NotFree(), call, other, one, lot)
            self.assert_unlike_first(call, ["q"])

    def test_24_things_one_by_one(self):
        one = counts_family(Counts(NAMES[:24], [(NAMES[at:at + 3], 1) for at in range(0, 24, 3)]))
        other = counts_family(Counts(NAMES[:24], [(NAMES[at:24:8], 1) for at in range(8)]))
        lot = []
        told = extended(one, other, lot)
        while told[0] == "more":
            self.assertIsNone(chain_fault(one, other, lot, told[1]))
            lot = told[2]
            told = extended(one, other, lot)
        self.assertIsNone(both_fault(one, other, lot, told[1]))


class Point_9_6(unittest.TestCase, Unlike):
    def test_all_short_lists_are_judged(self):
        seen = set()
        for (one, searched), (other, second) in pairs_of_families(40):
            for lot in common_lots(searched, second)[::3]:
                for many in range(4):
                    for chain in list(permutations(searched.things, many))[::2]:
                        word = chain_word(searched, second, lot, list(chain))
                        seen.add(word)
                        self.assertEqual(chain_fault(one, other, lot[::-1], list(chain)), word, (lot, chain))
        self.assertLessEqual({None, "count", "side", "begin", "step", "end"}, seen)

    def test_longer_lists_of_five(self):
        seen = set()
        for (one, searched), (other, second) in pairs_of_families(120):
            for lot in [lot for lot in common_lots(searched, second) if len(lot) == 2]:
                for chain in permutations(searched.things, 5):
                    if set(chain[1::2]) == set(lot):
                        word = chain_word(searched, second, lot, list(chain))
                        seen.add(word)
                        self.assertEqual(chain_fault(one, other, lot, list(chain)), word, (lot, chain))
        self.assertLessEqual({None, "begin", "step", "end", "longer"}, seen)

    def test_words_in_their_order(self):
        one, other = example()
        self.assertEqual(chain_fault(one, other, ["b"], []), "count")
        self.assertEqual(chain_fault(one, other, ["b"], ["q", "q"]), "count")
        for chain in (["q"], ["c", "b", "c"], ["c", "c", "c"], ["b", "a", ""]):
            self.assertEqual(chain_fault(one, other, ["b"], chain), "thing")
        for chain in (["b"], ["b", "c", "a"], ["c", "a", "b"]):
            self.assertEqual(chain_fault(one, other, ["b"], chain), "side")
        self.assertEqual(chain_fault(one, other, ["b"], ["a"]), "begin")
        self.assertEqual(chain_fault(one, other, ["b"], ["a", "b", "c"]), "begin")
        self.assertEqual(chain_fault(one, other, ["b"], ["c"]), "end")
        self.assertIsNone(chain_fault(one, other, ["b"], ["c", "b", "a"]))

    def test_unlike_things(self):
        self.assert_unlike_first(chain_fault, ["q"], ["q"])


if __name__ == "__main__":
    unittest.main()
