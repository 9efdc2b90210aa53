"""Point 1.5: families that are told by their bases."""

import unittest
from itertools import chain, combinations
from random import Random

from bothfree.errors import BadBases, BadThings, BrokenBases
from bothfree.families import Family, bases, listed, rings
from tests.helpers import NAMES, Telling, lots_of


def least_broken(lots):
    """Return the least triple of point 1.5, or None, by going through all triples."""
    known = [set(lot) for lot in lots]
    ordered = sorted(sorted(lot) for lot in lots)
    for one in ordered:
        for other in ordered:
            for thing in one:
                into = [set(one) - {thing} | {new} for new in other if new not in one]
                if thing not in other and not any(lot in known for lot in into):
                    return one, other, thing
    return None


class Point_1_5(unittest.TestCase, Telling):
    def test_document_example(self):
        family = listed(["a", "b", "c", "d"], [["a", "b"], ["a", "c"], ["b", "c"]])
        self.assertIsInstance(family, Family)
        self.assertEqual((family.stuck(), rings(family)), (["d"], [["d"], ["a", "b", "c"]]))
        self.raises(BrokenBases(["a", "b"], ["c", "d"], "a"), listed, ["a", "b", "c", "d"], [["a", "b"], ["c", "d"]])

    def test_order_means_nothing(self):
        family = listed(["c", "a", "b"], [["c", "b"], ["b", "a"]])
        self.assertEqual((family.things(), bases(family)), (["a", "b", "c"], [["a", "b"], ["b", "c"]]))
        self.assertEqual((family.sure(), family.span(["c"]), family.rank(["c", "a"])), (["b"], ["a", "c"], 1))

    def test_ten_things(self):
        lots = [list(lot) for lot in combinations(NAMES[:10], 5)]
        family = listed(NAMES[:10], lots)
        self.assertEqual(bases(family), lots)
        self.assertEqual((family.rank(NAMES[:10]), family.rank(NAMES[2:5])), (5, 3))
        self.assertEqual(bases(listed(NAMES[:10], [NAMES[:10]])), [NAMES[:10]])
        self.assertEqual(listed(NAMES[:10], [[]]).stuck(), NAMES[:10])

    def test_eleven_things_are_too_many(self):
        self.raises(BadThings(-1), listed, NAMES[:11], [])
        self.raises(BadThings(-1), listed, ["A"] * 11, [[]])
        self.raises(BadThings(-1), listed, ["a"] * 11, [["a"]])

    def test_wrong_things(self):
        self.raises(BadThings(0), listed, ["", "a"], [])
        self.raises(BadThings(1), listed, ["a", "a", "A"], [["a"]])
        self.raises(BadThings(2), listed, ["a", "b", "abcdefghi", "b"], [["x"]])
        self.raises(BadThings(3), listed, ["a", "b", "c", "d1"], [["a"]])

    def test_wrong_bases(self):
        things = ["a", "b", "c"]
        self.raises(BadBases(-1), listed, things, [])
        self.raises(BadBases(-1), listed, [], [])
        self.raises(BadBases(0), listed, things, [["a", "x"], ["a", "a"]])
        self.raises(BadBases(1), listed, things, [["a"], ["b", "b"], ["a"]])
        self.raises(BadBases(2), listed, things, [["a", "b"], ["c"], ["b", "a"], ["x"]])
        self.raises(BadBases(1), listed, things, [[], []])
        self.raises(BadBases(0), listed, [], [["a"]])

    def test_wrong_bases_come_ahead_of_broken_ones(self):
        self.raises(BadBases(2), listed, ["a", "b", "c", "d"], [["a", "b"], ["c", "d"], ["d", "c"]])

    def test_bases_of_unlike_numbers_of_things_are_broken(self):
        self.raises(BrokenBases(["a"], [], "a"), listed, ["a"], [[], ["a"]])
        self.raises(BrokenBases(["a", "b"], ["a"], "b"), listed, ["a", "b"], [["b", "a"], ["a"]])

    def test_broken_bases_are_told_sorted_and_least(self):
        lots = [["d", "c"], ["b", "a"], ["e", "d"]]
        self.raises(BrokenBases(["a", "b"], ["c", "d"], "a"), listed, ["e", "d", "c", "b", "a"], lots)
        self.raises(BrokenBases(["a", "b"], ["c", "d"], "b"), listed, ["a", "b", "c", "d"],
                    [["c", "d"], ["b", "c"], ["b", "d"], ["a", "b"]])

    def test_all_sets_of_lots_of_three_things(self):
        lots = lots_of(["a", "b", "c"])
        for chosen in chain.from_iterable(combinations(lots, many) for many in range(1, 9)):
            self.compare(["a", "b", "c"], list(chosen))

    def test_some_sets_of_lots_of_five_things(self):
        chance = Random(15)
        for rank in (1, 2, 3, 4):
            lots = [list(lot) for lot in combinations("abcde", rank)]
            for _ in range(40):
                self.compare(list("edcba"), chance.sample(lots, chance.randint(1, len(lots))))

    def compare(self, things, lots):
        broken = least_broken(lots)
        if broken is None:
            self.assertEqual(bases(listed(things, lots)), sorted(sorted(lot) for lot in lots))
        else:
            self.raises(BrokenBases(*broken), listed, things, lots)
