"""Points 16.1 and 16.6: what holds for every family."""

import unittest
from random import Random

from bothfree.families import bases, listed
from tests.helpers import even, lots_of, some_families


class Point_16_1(unittest.TestCase):
    def test_rank_lies_between_nought_and_the_number_and_grows_by_at_most_one(self):
        for family, _ in some_families():
            for lot in lots_of(family.things()):
                rank = family.rank(lot)
                self.assertTrue(0 <= rank <= len(lot))
                self.assertIs(family.is_free(lot), rank == len(lot))
                for thing in family.things():
                    if thing not in lot:
                        self.assertIn(family.rank([*lot, thing]) - rank, (0, 1))

    def test_rank_of_the_common_things_and_of_both_together(self):
        chance = Random(161)
        for family in [pair[0] for pair in some_families()] + [even(24, 7)]:
            things = family.things()
            for _ in range(40):
                one = set(chance.sample(things, chance.randint(0, len(things))))
                other = set(chance.sample(things, chance.randint(0, len(things))))
                least = family.rank(list(one & other)) + family.rank(list(one | other))
                self.assertLessEqual(least, family.rank(list(one)) + family.rank(list(other)))


class Point_16_6(unittest.TestCase):
    def test_the_rests_of_the_bases_are_the_bases_of_a_family(self):
        for family, _ in some_families():
            turned = turned_by_bases(family)
            for lot in lots_of(family.things()):
                rest = [thing for thing in family.things() if thing not in lot]
                self.assertIs(turned.is_free(lot), family.rank(rest) == family.rank(family.things()))
            self.assertEqual((turned.stuck(), turned.sure()), (family.sure(), family.stuck()))
            self.assertEqual(bases(turned_by_bases(turned)), bases(family))


def turned_by_bases(family):
    things = family.things()
    return listed(things, [[thing for thing in things if thing not in base] for base in bases(family)])
