"""Points 16.1, 16.2, 16.3, 16.5 and 16.6: what holds for every family."""

import unittest
from random import Random

from bothfree.both import greatest_set, least_set
from bothfree.families import alike, bases, listed
from bothfree.many import covered, packed, parted, union
from bothfree.split import curve, heaviest_both, split, split_fault
from bothfree.turns import turned
from tests.helpers import even, lots_of, some_weights
from tests.makings import common_lots, pairs_of_families, rest_of, some_families


class Point_16_1(unittest.TestCase):
    def test_rank_lies_between_nought_and_the_number_and_grows_by_at_most_one(self):
        for family, _ in some_families():
            for lot in lots_of(family.things()):
                rank = family.rank(lot)
                self.assertTrue(0 <= rank <= len(lot))
                self.assertIs(family.is_free(lot), rank == len(lot))
                for thing in family.things():
                    if thing not in lot:
                        self.assertIn(family.rank([*lot, thing]) - rank, (0, 1))

    def test_rank_of_the_common_things_and_of_both_together(self):
        chance = Random(161)
        for family in [pair[0] for pair in some_families()] + [even(24, 7)]:
            things = family.things()
            for _ in range(40):
                one = set(chance.sample(things, chance.randint(0, len(things))))
                other = set(chance.sample(things, chance.randint(0, len(things))))
                least = family.rank(list(one & other)) + family.rank(list(one | other))
                self.assertLessEqual(least, family.rank(list(one)) + family.rank(list(other)))


class Point_16_2(unittest.TestCase):
    def test_some_lot_and_some_x_reach_one_another_and_all_such_x_hang_together(self):
        for (one, searched), (other, second) in pairs_of_families(200):
            lots = lots_of(one.things())
            sums = [one.rank(x) + other.rank(rest_of(one.things(), x)) for x in lots]
            self.assertEqual(min(sums), len(common_lots(searched, second)[-1]))
            reach = [set(x) for x, told in zip(lots, sums) if told == min(sums)]
            for x in reach[::3]:
                for y in reach[::2]:
                    self.assertIn(x & y, reach)
                    self.assertIn(x | y, reach)
            self.assertTrue(all(set(least_set(one, other)) <= x <= set(greatest_set(one, other)) for x in reach))


class Point_16_3(unittest.TestCase):
    def test_every_heaviest_lot_and_every_split_show_one_another(self):
        chance = Random(163)
        for at, ((one, searched), (other, second)) in enumerate(pairs_of_families(120)):
            weights = some_weights(one.things(), chance)[at % 6]
            told = curve(one, other, weights)
            steps = [after - before for before, after in zip(told, told[1:])]
            self.assertEqual(steps, sorted(steps, reverse=True))
            for k, worth in enumerate(told):
                parts = split(one, other, weights, k)
                for lot in common_lots(searched, second):
                    if len(lot) == k and sum(weights[thing] for thing in lot) == worth:
                        self.assertIsNone(split_fault(one, other, weights, lot, *parts))
                self.assertEqual(heaviest_both(one, other, weights, k)[0], worth)


class Point_16_5(unittest.TestCase):
    def test_covers_packs_and_unions_by_all_lots(self):
        for family, _ in some_families():
            lots = lots_of(family.things())
            full = family.rank(family.things())
            for k in (1, 2, 3):
                enough = all(len(lot) <= k * family.rank(lot) for lot in lots)
                self.assertIs(covered(family, k) is not None, enough)
                rests = [(len(family) - len(lot), full - family.rank(lot)) for lot in lots]
                self.assertIs(packed(family, k) is not None, all(many >= k * rank for many, rank in rests))

    def test_ranks_of_unions(self):
        for (one, _), (other, _) in pairs_of_families(80):
            made = union([one, other])
            for lot in lots_of(one.things())[::3]:
                ranks = [len(lot) - len(x) + one.rank(x) + other.rank(x) for x in lots_of(lot)]
                self.assertEqual(made.rank(lot), min(ranks))
                self.assertIs(parted([one, other], lot) is not None, min(ranks) == len(lot))


class Point_16_6(unittest.TestCase):
    def test_the_turned_family(self):
        for family, _ in some_families():
            made = turned(family)
            self.assertEqual(bases(made), sorted(rest_of(family.things(), base) for base in bases(family)))
            self.assertEqual((made.stuck(), made.sure()), (family.sure(), family.stuck()))
            self.assertIsNone(alike(turned(made), family))

    def test_the_rests_of_the_bases_are_the_bases_of_a_family(self):
        for family, _ in some_families():
            turned = turned_by_bases(family)
            for lot in lots_of(family.things()):
                rest = [thing for thing in family.things() if thing not in lot]
                self.assertIs(turned.is_free(lot), family.rank(rest) == family.rank(family.things()))
            self.assertEqual((turned.stuck(), turned.sure()), (family.sure(), family.stuck()))
            self.assertEqual(bases(turned_by_bases(turned)), bases(family))


def turned_by_bases(family):
    things = family.things()
    return listed(things, [[thing for thing in things if thing not in base] for base in bases(family)])
