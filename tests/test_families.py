"""Points 1.1 to 1.4 and 1.6: the methods of families and the functions over them."""

import unittest
from itertools import combinations

from bothfree.errors import BadLot, InLot, NoThing, NotFree, TooMany, UnlikeThings
from bothfree.families import Family, alike, bases, free_lots, is_ring, listed, ring_of, rings
from bothfree.hires import Hires, hires_family
from bothfree.webs import Web, ties_family
from tests.helpers import NAMES, Telling, even, lots_of, triangle_web
from tests.makings import some_families


def triangle():
    return ties_family(triangle_web())


class Point_1_1(unittest.TestCase):
    def test_free_lots_are_a_family(self):
        for family, _ in some_families():
            free = {tuple(lot) for lot in lots_of(family.things()) if family.is_free(lot)}
            self.assertIn((), free)
            for lot in free:
                for part in lots_of(lot):
                    self.assertIn(tuple(part), free)
                for lesser in free:
                    if len(lesser) < len(lot):
                        more = [tuple(sorted([*lesser, thing])) for thing in lot if thing not in lesser]
                        self.assertTrue(any(longer in free for longer in more))

    def test_stuck_things_are_rings_and_sure_things_are_in_none(self):
        for family, _ in some_families():
            for thing in family.stuck():
                self.assertTrue(is_ring(family, [thing]))
            for ring in rings(family):
                self.assertFalse(set(ring) & set(family.sure()))


class Point_1_2(unittest.TestCase, Telling):
    def test_methods_stand_in_the_class_itself(self):
        for name in ("things", "rank", "is_free", "is_base", "span", "base", "stuck", "sure"):
            self.assertIn(name, vars(Family))
        self.assertIsInstance(triangle(), Family)

    def test_document_example(self):
        family = triangle()
        told = (family.base(), family.stuck(), family.span(["y", "x"]), rings(family))
        self.assertEqual(told, (["x", "y"], ["l"], ["l", "x", "y", "z"], [["l"], ["x", "y", "z"]]))

    def test_things_number_and_membership(self):
        for family, searched in some_families():
            self.assertEqual(family.things(), searched.things)
            self.assertEqual(len(family), len(searched.things))
            for name in [*NAMES, "", "A", "nothing", "abcdefghi"]:
                self.assertIs(name in family, name in searched.things)

    def test_all_lots_as_plain_search_tells(self):
        for family, searched in some_families():
            for lot in lots_of(family.things()):
                for told in (lot, lot[::-1]):
                    self.assertEqual(family.rank(told), searched.rank(lot))
                    self.assertIs(family.is_free(told), searched.is_free(lot))
                    self.assertIs(family.is_base(told), lot in searched.bases())
                    self.assertEqual(family.span(told), searched.span(lot))

    def test_rings_over_free_lots(self):
        # The package works with these masks; each ring is what point 1.3 says.
        for family, searched in some_families():
            for lot in searched.free_lots():
                rings_of_lot = [[other for other in [*lot, thing] if searched.is_free({*lot, thing} - {other})]
                                for thing in searched.things]
                for thing, ring, mask in zip(searched.things, rings_of_lot, family.rings_over(family.mask_of(lot))):
                    free = searched.is_free({*lot, thing})
                    self.assertEqual(family.lot_of(mask), [] if free else sorted(ring))

    def test_first_base_stuck_and_sure_things(self):
        for family, searched in some_families():
            self.assertEqual(family.base(), searched.bases()[0])
            self.assertEqual(family.stuck(), searched.stuck())
            self.assertEqual(family.sure(), searched.sure())

    def test_the_first_base_is_the_greedy_one(self):
        family = ties_family(Web(["a", "b", "c"], {"p": ("a", "a"), "q": ("a", "b"), "r": ("b", "a"), "s": ("b", "c")}))
        self.assertEqual(family.base(), ["q", "s"])

    def test_family_without_things(self):
        family = listed([], [[]])
        self.assertEqual((family.things(), len(family), family.rank([]), family.base()), ([], 0, 0, []))
        self.assertEqual((family.is_free([]), family.is_base([]), family.span([])), (True, True, []))
        self.assertEqual((family.stuck(), family.sure(), "a" in family), ([], [], False))

    def test_family_of_24_things(self):
        family = even(24, 12)
        self.assertEqual((len(family), family.base(), family.rank(family.things())), (24, NAMES[:12], 12))
        self.assertEqual((family.span(NAMES[:12]), family.span(NAMES[:11])), (NAMES[:24], NAMES[:11]))
        self.assertEqual((family.stuck(), family.sure(), even(24, 24).sure()), ([], [], NAMES[:24]))
        self.assertEqual(even(24, 0).stuck(), NAMES[:24])

    def test_lots_that_are_none(self):
        family = triangle()
        for ask in (family.rank, family.is_free, family.is_base, family.span):
            self.raises(BadLot(0), ask, ["a", "x", "x"])
            self.raises(BadLot(1), ask, ["x", "x", "a"])
            self.raises(BadLot(2), ask, ["x", "y", ""])


class Point_1_3(unittest.TestCase, Telling):
    def test_ring_of_as_plain_search_tells(self):
        for family, searched in some_families():
            for lot in searched.free_lots():
                for thing in set(searched.things) - set(lot):
                    whole = sorted([*lot, thing])
                    expected = [ring for ring in searched.rings() if set(ring) <= set(whole)]
                    self.assertEqual(ring_of(family, lot[::-1], thing), expected[0] if expected else None)
                    self.assertLessEqual(len(expected), 1)

    def test_ring_of_leaves_out_what_is_not_in_the_ring(self):
        web = Web(["a", "b", "c", "d"], {"p": ("a", "b"), "q": ("b", "c"), "r": ("c", "d"), "s": ("c", "a")})
        self.assertEqual(ring_of(ties_family(web), ["r", "q", "p"], "s"), ["p", "q", "s"])

    def test_a_stuck_thing_is_its_own_ring(self):
        self.assertEqual(ring_of(triangle(), [], "l"), ["l"])
        self.assertEqual(ring_of(triangle(), ["y", "x"], "l"), ["l"])

    def test_ring_of_errors_in_their_order(self):
        family = triangle()
        self.raises(BadLot(1), ring_of, family, ["x", "x"], "none")
        self.raises(BadLot(3), ring_of, family, ["x", "y", "z", "none"], "x")
        self.raises(NotFree(), ring_of, family, ["l"], "none")
        self.raises(NotFree(), ring_of, family, ["x", "z", "y"], "x")
        self.raises(NoThing("none"), ring_of, family, ["x"], "none")
        self.raises(NoThing(""), ring_of, family, [], "")
        self.raises(InLot("x"), ring_of, family, ["y", "x"], "x")

    def test_is_ring_as_plain_search_tells(self):
        for family, searched in some_families():
            for lot in lots_of(searched.things):
                self.assertIs(is_ring(family, lot[::-1]), searched.is_ring(lot))

    def test_is_ring_of_a_wrong_lot(self):
        self.assertIs(is_ring(triangle(), []), False)
        self.raises(BadLot(0), is_ring, triangle(), ["a"])
        self.raises(BadLot(1), is_ring, triangle(), ["l", "l"])


class Point_1_4(unittest.TestCase, Telling):
    def test_lists_as_plain_search_tells(self):
        for family, searched in some_families():
            self.assertEqual(free_lots(family), searched.free_lots())
            self.assertEqual(rings(family), searched.rings())
            self.assertEqual(bases(family), searched.bases())

    def test_lists_of_a_family_without_things(self):
        family = listed([], [[]])
        self.assertEqual((free_lots(family), rings(family), bases(family)), ([[]], [], [[]]))

    def test_lists_of_twelve_things(self):
        family = even(12, 3)
        self.assertEqual(free_lots(family), [list(lot) for many in range(4) for lot in combinations(NAMES[:12], many)])
        self.assertEqual(rings(family), [list(lot) for lot in combinations(NAMES[:12], 4)])
        self.assertEqual(len(free_lots(even(12, 12))), 4096)
        self.assertEqual(rings(even(12, 12)), [])

    def test_rings_of_unlike_numbers_of_things_are_in_order(self):
        ties = {"p": ("a", "b"), "q": ("b", "c"), "r": ("c", "a"), "s": ("c", "b"), "t": ("a", "a")}
        web = Web(["a", "b", "c"], ties)
        self.assertEqual(rings(ties_family(web)), [["t"], ["q", "s"], ["p", "q", "r"], ["p", "r", "s"]])

    def test_thirteen_things_are_too_many_for_lists_of_lots(self):
        for family in (even(13, 0), even(13, 2), even(24, 24)):
            self.raises(TooMany(12), free_lots, family)
            self.raises(TooMany(12), rings, family)

    def test_bases_up_to_two_thousand(self):
        self.assertEqual(bases(even(23, 3)), [list(lot) for lot in combinations(NAMES[:23], 3)])
        self.assertEqual(bases(even(24, 0)), [[]])
        self.assertEqual(bases(even(24, 24)), [NAMES[:24]])
        self.assertEqual(len(bases(even(24, 2))), 276)

    def test_just_two_thousand_bases_and_one_more(self):
        # A way of seven steps, of which each can be gone by 2 or by 5 ties: 2 * 2 * 2 * 2 * 5 * 5 * 5 bases.
        steps = list(zip("abcdefg", "bcdefgh", [2, 2, 2, 2, 5, 5, 5]))
        self.assertEqual(len(bases(many_ties(steps))), 2000)
        # Two rings of three steps and one step: (1 * 3 + 3 * 5 + 5 * 1) * (1 * 4 + 4 * 5 + 5 * 1) * 3 bases.
        rings_and_step = list(zip("abccdea", "bcadecf", [1, 3, 5, 1, 4, 5, 3]))
        self.raises(TooMany(2000), bases, many_ties(rings_and_step))
        self.assertEqual(len(bases(many_ties(rings_and_step[:6]))), 23 * 29)

    def test_far_more_than_two_thousand_bases(self):
        self.raises(TooMany(2000), bases, even(24, 3))
        self.raises(TooMany(2000), bases, even(24, 12))


def many_ties(steps):
    """Return the family of a web in which each step, a pair of places, can be gone by a number of ties."""
    ends = [(one, other) for one, other, many in steps for _ in range(many)]
    return ties_family(Web(NAMES[:8], dict(zip(NAMES, ends))))


class Point_1_6(unittest.TestCase, Telling):
    def test_alike_families_tell_no_lot(self):
        for family, searched in some_families():
            if len(family) <= 10:
                self.assertIsNone(alike(family, listed(searched.things, searched.bases())))
                self.assertIsNone(alike(family, family))

    def test_the_least_lot_that_tells_families_apart(self):
        pairs = [pair for pair in some_families()]
        compared = 0
        for family, searched in pairs:
            for other, found in pairs:
                if searched.things == found.things and searched.free != found.free:
                    least = [lot for lot in lots_of(found.things) if searched.is_free(lot) != found.is_free(lot)][0]
                    self.assertEqual(alike(family, other), least)
                    compared += 1
        self.assertGreater(compared, 4)

    def test_fewest_things_come_ahead_of_sorted_order(self):
        one = listed(["a", "b", "c"], [["a", "b"], ["a", "c"], ["b", "c"]])
        other = listed(["a", "b", "c"], [["a", "b"], ["a", "c"]])
        self.assertEqual((alike(one, other), alike(other, one)), (["b", "c"], ["b", "c"]))
        one = listed(["a", "b", "c"], [["a", "b"]])
        self.assertEqual(alike(one, listed(["a", "b", "c"], [["a", "c"]])), ["b"])
        self.assertEqual(alike(one, listed(["a", "b", "c"], [["a", "b", "c"]])), ["c"])

    def test_twelve_things(self):
        self.assertIsNone(alike(even(12, 5), even(12, 5)))
        self.assertEqual(alike(even(12, 4), even(12, 5)), NAMES[:5])
        self.assertEqual(alike(even(12, 12), even(12, 11)), NAMES[:12])

    def test_errors_in_their_order(self):
        self.raises(UnlikeThings(), alike, even(3, 1), even(4, 1))
        self.raises(UnlikeThings(), alike, even(13, 1), even(14, 1))
        self.raises(UnlikeThings(), alike, listed(["a"], [["a"]]), listed(["b"], [["b"]]))
        self.raises(UnlikeThings(), alike, listed([], [[]]), listed(["b"], [["b"]]))
        self.raises(TooMany(12), alike, even(13, 1), even(13, 1))

    def test_families_of_unlike_worlds_are_compared(self):
        web = Web(["a", "b"], {"x": ("a", "b"), "y": ("a", "b")})
        hires = Hires(["x", "y"], {"x": ["j"], "y": ["j"]})
        self.assertIsNone(alike(ties_family(web), hires_family(hires)))
