"""Points 12.1 to 12.6: exchanges of one thing that lead from base to base."""

import unittest
from itertools import permutations, product
from random import Random

from bothfree.chains import (count_swaps, distance, near_swaps, nearer_swaps, partners, partners_fault, swaps,
                             swaps_fault, twin, twins)
from bothfree.counts import Counts, counts_family
from bothfree.errors import BadLot, InLot, NoThing, NotBase, TooMany
from bothfree.turns import cut_short, free_on, turned
from bothfree.webs import Web, ties_family
from tests.helpers import NAMES, ODD_VALUES, Telling, even, nested
from tests.makings import rest_of, some_families


def example():
    """Return the family of the document's example."""
    return counts_family(Counts(["a", "b", "c", "d"], [(["a", "c"], 1), (["b", "d"], 1)]))


def samples(most=6, step=1):
    """Yield families, their bases by plain search, and pairs of bases."""
    chance = Random(12)
    for family, searched in some_families()[::step]:
        bases = searched.bases()
        for _ in range(min(most, len(bases) ** 2)):
            yield family, bases, chance.choice(bases), chance.choice(bases)


def exchanged(base, out, new):
    return sorted([*rest_of(base, [out]), new])


def swaps_word(bases, one, other, given):
    """Judge a list of pairs of strings as swaps_fault is to do it."""
    outs, ins = rest_of(one, other), rest_of(other, one)
    base, seen = one, []
    for k, (out, new) in enumerate(given):
        if out not in outs or new not in ins or out in seen or new in seen:
            return "pair", k
        seen += [out, new]
        base = exchanged(base, out, new)
        if base not in bases:
            return "base", k
    return None if len(seen) == 2 * len(outs) else ("end",)


def partners_word(bases, one, other, given):
    """Judge a dict from strings to strings as partners_fault is to do it."""
    outs, ins = rest_of(one, other), rest_of(other, one)
    extra = [key for key in given if key not in outs]
    missing = [out for out in outs if out not in given]
    if extra or missing:
        return "thing", min(extra or missing)
    order = sorted(given)
    twice = [key for at, key in enumerate(order)
             if given[key] not in ins or given[key] in [given[lesser] for lesser in order[:at]]]
    caught = [key for key in order if exchanged(one, key, given[key]) not in bases]
    for word, found in (("twice", twice), ("base", caught)):
        if found:
            return word, found[0]
    return None


class Bases(Telling):
    """Sees to it that lots that are none, and then those that are no bases, are refused first."""

    def assert_bases_first(self, call, *further):
        family = even(4, 2)
        self.raises(BadLot(1), call, family, ["a", "a"], ["q"], *further)
        self.raises(BadLot(0), call, family, ["a"], ["q"], *further)
        self.raises(BadLot(2), call, family, ["a", "b"], ["c", "d", "d"], *further)
        self.raises(NotBase(), call, family, ["a"], ["c", "d"], *further)
        self.raises(NotBase(), call, family, ["a", "b"], ["c", "d", "a"], *further)
        self.raises(NotBase(), call, family, ["a", "b"], [], *further)


class Point_12_1(unittest.TestCase, Bases):
    def test_distances(self):
        for family, _, one, other in samples():
            self.assertEqual(distance(family, one[::-1], other[::-1]), len(set(one) - set(other)))

    def test_edges(self):
        self.assertEqual(distance(example(), ["b", "a"], ["a", "b"]), 0)
        self.assertEqual(distance(free_on([]), [], []), 0)
        self.assertEqual(distance(even(24, 12), NAMES[:12], NAMES[12:24]), 12)

    def test_lots_that_are_no_bases(self):
        for call in (distance, swaps, nearer_swaps, partners, count_swaps):
            self.assert_bases_first(call)
        for call in (swaps_fault, partners_fault):
            self.assert_bases_first(call, None)
        for call in (twin, twins):
            self.assert_bases_first(call, "q")


class Point_12_2(unittest.TestCase, Bases):
    def test_near_swaps_by_all_pairs(self):
        for family, bases, one, _ in samples(3):
            pairs = product(one, rest_of(family.things(), one))
            self.assertEqual(near_swaps(family, one[::-1]), [pair for pair in pairs if exchanged(one, *pair) in bases])

    def test_near_swaps_of_no_base(self):
        self.raises(BadLot(1), near_swaps, example(), ["a", "a"])
        self.raises(BadLot(0), near_swaps, example(), ["q", "a", "a"])
        for lot in (["a"], [], ["a", "c"], ["a", "b", "c"]):
            self.raises(NotBase(), near_swaps, example(), lot)

    def test_swaps_lead_from_one_to_the_other(self):
        for family, bases, one, other in samples():
            told = swaps(family, one[::-1], other[::-1])
            self.assertIsInstance(told, list)
            self.assertTrue(all(pair.__class__ is tuple for pair in told))
            self.assertIsNone(swaps_word(bases, one, other, told))

    def test_nearer_swaps_by_all_pairs(self):
        for family, bases, one, other in samples():
            pairs = product(rest_of(one, other), rest_of(other, one))
            told = nearer_swaps(family, one[::-1], other[::-1])
            self.assertEqual(told, [pair for pair in pairs if exchanged(one, *pair) in bases])
            self.assertIs(told == [], one == other)

    def test_document_example(self):
        self.assertEqual(nearer_swaps(example(), ["a", "b"], ["d", "c"]), [("a", "c"), ("b", "d")])
        self.assertEqual(near_swaps(example(), ["b", "a"]), [("a", "c"), ("b", "d")])

    def test_the_same_base_twice_and_no_things(self):
        for call in (swaps, nearer_swaps):
            self.assertEqual((call(example(), ["a", "b"], ["b", "a"]), call(free_on([]), [], [])), ([], []))
        self.assertEqual((near_swaps(free_on([]), []), near_swaps(even(3, 0), []), near_swaps(even(3, 3), NAMES[:3])), ([], [], []))

    def test_24_things(self):
        family = even(24, 12)
        self.assertEqual(len(near_swaps(family, NAMES[:12])), 144)
        told = swaps(family, NAMES[:12], NAMES[12:24])
        self.assertEqual((len(told), swaps_fault(family, NAMES[:12], NAMES[12:24], told)), (12, None))
        for _ in range(30):
            family = turned(cut_short(family, 12))
        self.assertIsNone(swaps_fault(family, NAMES[:12], NAMES[12:24], swaps(family, NAMES[:12], NAMES[12:24])))


class Point_12_3(unittest.TestCase, Bases):
    def test_lists_of_pairs(self):
        chance = Random(123)
        seen = set()
        for family, bases, one, other in samples(12):
            right = swaps(family, one, other)
            outs, ins = rest_of(one, other), rest_of(other, one)
            pairs = [*product(outs, ins), *product(family.things()[:2], family.things()[-2:])]
            lists = [right, right[::-1], right[:-1], right + right[:1], [pair[::-1] for pair in right], []]
            for _ in range(4):
                lists.append([chance.choice(pairs) for _ in range(chance.randint(0, len(outs) + 1)) if pairs])
                lists.append(list(zip(chance.sample(outs, len(outs)), chance.sample(ins, len(ins)))))
            for given in lists:
                word = swaps_word(bases, one, other, given)
                seen.add((word or [None])[0])
                self.assertEqual(swaps_fault(family, one[::-1], other[::-1], given), word)
        self.assertEqual(seen, {None, "pair", "base", "end"})

    def test_words_in_their_order(self):
        one, other = ["a", "b"], ["c", "d"]
        for given, told in (([("a", "d")], ("base", 0)), ([("a", "c")], ("end",)), ([], ("end",)),
                            ([("a", "c"), ("b", "d")], None), ([("a", "c"), ("a", "d")], ("pair", 1)),
                            ([("a", "c"), ("b", "c")], ("pair", 1)), ([("c", "a")], ("pair", 0)), ([("", "c")], ("pair", 0)),
                            ([("a", "c"), ("b", "d"), ("b", "d")], ("pair", 2)), ([("a", "q"), ("b", "c")], ("pair", 0)),
                            ([("b", "d"), ("a", "b")], ("pair", 1)), ([("b", "c"), ("q", "q")], ("base", 0))):
            self.assertEqual(swaps_fault(example(), one, other, given), told, given)

    def test_values_of_any_kind(self):
        for value in [*ODD_VALUES, 1, "ac", ("a", "c"), (("a", "c"), ("b", "d")), {("a", "c"): 1}, [["a", "c"]], ["ac"],
                      [("a",)], [("a", "c", "b")], [("a", None)], [(1, "c")], [("a", ["c"])], [()], [None],
                      [("a", "c"), ("b", True)], nested(list), nested(tuple), [nested(tuple)], [("a", nested(list))]]:
            self.assertEqual(swaps_fault(example(), ["a", "b"], ["c", "d"], value), ("form",), value)

    def test_the_same_base_twice(self):
        self.assertIsNone(swaps_fault(example(), ["a", "b"], ["b", "a"], []))
        self.assertEqual(swaps_fault(example(), ["a", "b"], ["b", "a"], [("a", "c")]), ("pair", 0))


class Point_12_4(unittest.TestCase, Bases):
    def test_twins_by_all_ins(self):
        for family, bases, one, other in samples():
            for thing in rest_of(one, other):
                right = [new for new in rest_of(other, one)
                         if exchanged(one, thing, new) in bases and exchanged(other, new, thing) in bases]
                self.assertEqual(twins(family, one[::-1], other[::-1], thing), right)
                self.assertIn(twin(family, one, other, thing), right)

    def test_an_exchange_that_does_for_one_base_alone_makes_no_twin(self):
        # The ties p and s have the same ends, so r can take the place of p, but p not that of r.
        family = ties_family(Web(["a", "b", "c"], {"p": ("a", "b"), "q": ("b", "c"), "r": ("a", "c"), "s": ("a", "b")}))
        self.assertEqual(twins(family, ["p", "q"], ["r", "s"], "p"), ["s"])
        self.assertEqual(nearer_swaps(family, ["p", "q"], ["r", "s"])[:2], [("p", "r"), ("p", "s")])

    def test_errors_in_their_order(self):
        for call in (twin, twins):
            for thing in ("c", "d", "q", "", "A"):
                self.raises(NoThing(thing), call, example(), ["a", "b"], ["c", "b"], thing)
            self.raises(InLot("b"), call, example(), ["a", "b"], ["c", "b"], "b")
            self.raises(InLot("a"), call, example(), ["a", "b"], ["b", "a"], "a")
        self.assertEqual(twins(example(), ["b", "a"], ["c", "d"], "a"), ["c"])


class Point_12_5(unittest.TestCase, Bases):
    def test_partners_one_to_one(self):
        for family, bases, one, other in samples():
            told = partners(family, one[::-1], other[::-1])
            self.assertIsInstance(told, dict)
            self.assertIsNone(partners_word(bases, one, other, told))
            self.assertIsNone(partners_fault(family, one[::-1], other[::-1], told))

    def test_document_example_and_edges(self):
        self.assertEqual(partners(example(), ["a", "b"], ["c", "d"]), {"a": "c", "b": "d"})
        self.assertEqual((partners(example(), ["a", "b"], ["b", "a"]), partners(free_on([]), [], [])), ({}, {}))
        told = partners(even(24, 12), NAMES[:12], NAMES[12:24])
        self.assertIsNone(partners_fault(even(24, 12), NAMES[:12], NAMES[12:24], told))

    def test_dicts_of_strings(self):
        chance = Random(125)
        seen = set()
        for family, bases, one, other in samples(12):
            outs, ins = rest_of(one, other), rest_of(other, one)
            right = partners(family, one, other)
            dicts = [right, {}, {**right, "zz": "a"}, {new: out for out, new in right.items()}]
            for _ in range(5):
                dicts.append(dict(zip(outs, chance.sample(ins, len(ins)))))
                dicts.append({out: chance.choice([*ins, "q", out]) for out in outs})
                dicts.append({thing: chance.choice([*ins, "q"]) for thing in chance.sample(family.things(), len(outs))})
            for given in dicts:
                word = partners_word(bases, one, other, given)
                seen.add((word or [None])[0])
                self.assertEqual(partners_fault(family, one[::-1], other[::-1], given), word)
        self.assertEqual(seen, {None, "thing", "twice", "base"})

    def test_words_in_their_order(self):
        one, other = ["a", "b"], ["c", "d"]
        for given, told in (({"q": "c", "c": "d", "a": "c"}, ("thing", "c")), ({"a": "c", "": "d"}, ("thing", "")),
                            ({"b": "d"}, ("thing", "a")), ({"a": "c"}, ("thing", "b")), ({}, ("thing", "a")),
                            ({"a": "q", "b": "q"}, ("twice", "a")), ({"a": "d", "b": "d"}, ("twice", "b")),
                            ({"b": "a", "a": "d"}, ("twice", "b")), ({"b": "c", "a": "d"}, ("base", "a")),
                            ({"b": "d", "a": "c"}, None)):
            self.assertEqual(partners_fault(example(), one, other, given), told, given)

    def test_values_of_any_kind(self):
        for value in [*[odd for odd in ODD_VALUES if not isinstance(odd, dict)], 1, [], [("a", "c")], "ac", {"a": 1, "b": "d"},
                      {"a": "c", "b": None}, {1: "c", "b": "d"}, {None: "c"}, {True: "c"}, {("a",): "c"}, {"a": ["c"]},
                      {nested(tuple): "c"}, {"a": nested(list)}, {"a": ("c",)}, nested(list), nested(tuple), {b"a": "c"}]:
            self.assertEqual(partners_fault(example(), ["a", "b"], ["c", "d"], value), ("form",), value)


def counted(bases, one, other):
    """Return the number of right answers of swaps by going through all orders of outs and of ins."""
    outs, ins = rest_of(one, other), rest_of(other, one)
    lists = [zip(order, choice) for order in permutations(outs) for choice in permutations(ins)]
    return sum(swaps_word(bases, one, other, list(given)) is None for given in lists)


class Point_12_6(unittest.TestCase, Bases):
    def test_numbers_by_going_through_all_lists(self):
        for family, bases, one, other in samples(3):
            right = counted(bases, one, other)
            self.assertGreater(right, 0)
            self.assertEqual(count_swaps(family, one[::-1], other[::-1]), right)
            self.assertEqual(count_swaps(family, other, one), right)

    def test_edges(self):
        self.assertEqual(count_swaps(example(), ["a", "b"], ["c", "d"]), 2)
        self.assertEqual((count_swaps(example(), ["a", "b"], ["b", "a"]), count_swaps(free_on([]), [], [])), (1, 1))
        self.assertEqual(count_swaps(even(12, 6), NAMES[:6], NAMES[6:12]), 720 * 720)
        self.assertEqual(count_swaps(even(24, 12), NAMES[:12], NAMES[6:18]), 720 * 720)

    def test_too_far(self):
        self.raises(TooMany(6), count_swaps, even(14, 7), NAMES[:7], NAMES[7:14])
        self.raises(NotBase(), count_swaps, even(14, 7), NAMES[:7], NAMES[7:13])


if __name__ == "__main__":
    unittest.main()
