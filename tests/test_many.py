"""Points 11.1 to 11.10: coverings, packings, lots parted among families, thickness and strength."""

import unittest
from fractions import Fraction
from itertools import product
from math import gcd
from random import Random

from bothfree.counts import Counts, counts_family
from bothfree.errors import BadLot, BadNumber, UnlikeThings
from bothfree.families import Family, free_lots
from bothfree.many import (cover_fault, cover_paper, covered, fewest, is_cover_paper, is_pack_paper, most, pack_fault,
                           pack_paper, packed, parted, parted_paper, strength, strength_fault, thickness,
                           thickness_fault, union)
from bothfree.turns import cut_short, free_on, joined, named, turned
from bothfree.webs import Web, ties_family
from tests.helpers import NAMES, ODD_VALUES, Telling, even, lots_of, nested
from tests.makings import rest_of, searched_named, searched_union, shuffled_names, some_families

BENT_LISTS = [*ODD_VALUES, 1, "ab", ("ab",), {"ab": 1}, nested(list), nested(tuple)]


def triangle():
    """Return the family of the document's example."""
    return ties_family(Web(["a", "b", "c"], {"ab": ("a", "b"), "ac": ("a", "c"), "bc": ("b", "c")}))


def is_paper_of_cover(searched, k, lot):
    return len(lot) > k * searched.rank(lot)


def is_paper_of_pack(searched, k, lot):
    return len(rest_of(searched.things, lot)) < k * (searched.rank(searched.things) - searched.rank(lot))


def is_cover(searched, k, lots):
    things = [thing for lot in lots for thing in lot]
    return len(lots) == k and all(searched.is_free(lot) for lot in lots) and sorted(things) == searched.things


def is_pack(searched, k, lots):
    things = [thing for lot in lots for thing in lot]
    bases = searched.bases()
    return len(lots) == k and all(lot in bases for lot in lots) and len(set(things)) == len(things)


def thickest(searched):
    return max(Fraction(len(lot), searched.rank(lot)) for lot in lots_of(searched.things) if searched.rank(lot))


def weakest(searched):
    full = searched.rank(searched.things)
    lots = [lot for lot in lots_of(searched.things) if searched.rank(lot) < full]
    return min(Fraction(len(searched.things) - len(lot), full - searched.rank(lot)) for lot in lots)


class Judging(Telling):
    """Judges lists of lots, and sees to it that wrong numbers are refused."""

    def assert_numbers(self, call, *further):
        for k in [-1, 25, 10 ** 30, -10 ** 30, "1", [1], (1,), nested(list), nested(tuple), *ODD_VALUES]:
            self.raises(BadNumber(k), call, triangle(), k, *further)

    def assert_told_lots(self, lots):
        self.assertIsInstance(lots, list)
        for lot in lots:
            self.assertIsInstance(lot, list)
            self.assertEqual(lot, sorted(set(lot)))


class Point_11_1(unittest.TestCase, Judging):
    def test_numbers_from_0_to_24(self):
        for call in (covered, cover_paper, packed, pack_paper):
            self.assert_numbers(call)
            for k in (0, 1, 24):
                call(triangle(), k)

    def test_judges_take_such_numbers_ahead_of_all_else(self):
        for call in (cover_fault, pack_fault, is_cover_paper, is_pack_paper):
            self.assert_numbers(call, None)
            self.assert_numbers(call, [["ab"]])


class Point_11_2(unittest.TestCase):
    def test_for_each_number_a_cover_or_a_paper_and_a_pack_or_a_paper(self):
        for family, searched in some_families():
            lots = lots_of(searched.things)
            for k in (0, 1, 2, 3, 24):
                cover = not any(is_paper_of_cover(searched, k, lot) for lot in lots)
                self.assertEqual((covered(family, k) is not None, cover_paper(family, k) is None), (cover, cover))
                pack = not any(is_paper_of_pack(searched, k, lot) for lot in lots)
                self.assertEqual((packed(family, k) is not None, pack_paper(family, k) is None), (pack, pack))

    def test_covers_and_packs_by_going_through_all(self):
        for family, searched in some_families()[::4]:
            if len(searched.things) < 5:
                for k in (1, 2):
                    places = product(range(k + 1), repeat=len(searched.things))
                    choices = [[[thing for thing, at in zip(searched.things, where) if at == index] for index in range(k)]
                               for where in places]
                    self.assertIs(covered(family, k) is not None, any(is_cover(searched, k, lots) for lots in choices))
                    self.assertIs(packed(family, k) is not None, any(is_pack(searched, k, lots) for lots in choices))


class Point_11_3(unittest.TestCase, Judging):
    def test_document_example(self):
        self.assertIsNone(covered(triangle(), 1))
        self.assertEqual(cover_paper(triangle(), 1), ["ab", "ac", "bc"])
        self.assertEqual(sorted(map(len, covered(triangle(), 2))), [1, 2])

    def test_covers_packs_and_papers(self):
        for family, searched in some_families():
            for k in (0, 1, 2, 3, 4, 24):
                lots, paper = covered(family, k), cover_paper(family, k)
                if lots is not None:
                    self.assert_told_lots(lots)
                    self.assertTrue(is_cover(searched, k, lots))
                else:
                    self.assertTrue(is_paper_of_cover(searched, k, paper))
                    self.assertEqual(paper, sorted(set(paper)))
                lots, paper = packed(family, k), pack_paper(family, k)
                if lots is not None:
                    self.assert_told_lots(lots)
                    self.assertTrue(is_pack(searched, k, lots))
                else:
                    self.assertTrue(is_paper_of_pack(searched, k, paper))
                    self.assertEqual(paper, sorted(set(paper)))

    def test_the_empty_base_alone(self):
        for family in (even(3, 0), free_on([])):
            self.assertEqual([packed(family, k) for k in (0, 1, 24)], [[], [[]], [[]] * 24])
            self.assertEqual([pack_paper(family, k) for k in (0, 24)], [None, None])
        self.assertEqual([covered(free_on([]), k) for k in (0, 1, 24)], [[], [[]], [[]] * 24])
        self.assertEqual([covered(even(1, 0), k) for k in (0, 24)], [None, None])
        self.assertEqual(cover_paper(even(1, 0), 24), ["a"])

    def test_lots_of_one_answer_do_not_hang_together(self):
        lots = packed(even(2, 0), 3)
        lots[0].append("a")
        self.assertEqual(lots, [["a"], [], []])

    def test_number_0(self):
        self.assertEqual((covered(triangle(), 0), packed(triangle(), 0), pack_paper(triangle(), 0)), (None, [], None))
        self.assertTrue(is_cover_paper(triangle(), 0, cover_paper(triangle(), 0)))

    def test_24_things(self):
        family = even(24, 5)
        self.assertEqual(sorted(thing for lot in covered(family, 5) for thing in lot), NAMES[:24])
        self.assertTrue(is_cover_paper(family, 4, cover_paper(family, 4)))
        self.assertIsNone(pack_fault(family, 4, packed(family, 4)))
        self.assertTrue(is_pack_paper(family, 5, pack_paper(family, 5)))
        self.assertIsNone(cover_fault(even(24, 1), 24, covered(even(24, 1), 24)))
        self.assertIsNone(pack_fault(even(24, 1), 24, packed(even(24, 1), 24)))
        self.assertEqual((covered(even(24, 1), 23), pack_paper(even(24, 1), 24)), (None, None))

    def test_a_web_of_24_ties_that_many_moves_cover(self):
        # All pairs of seven places, and three of these once more: two times twelve ties.
        pairs = [(NAMES[one], NAMES[other]) for other in range(7) for one in range(other)] + [("a", "b"), ("c", "d"), ("e", "f")]
        family = ties_family(Web(NAMES[:7], dict(zip(NAMES, pairs))))
        self.assertIsNone(cover_fault(family, 4, covered(family, 4)))
        self.assertTrue(is_cover_paper(family, 3, cover_paper(family, 3)))
        self.assertIsNone(pack_fault(family, 3, packed(family, 3)))
        self.assertIsNone(pack_fault(turned(family), 1, packed(turned(family), 1)))


def cover_word(searched, k, lots):
    """Judge a list of lists of strings as cover_fault is to do it."""
    if len(lots) != k:
        return ("form",)
    wrong = [at for at, lot in enumerate(lots) if len(set(lot)) < len(lot) or set(lot) - set(searched.things)]
    caught = [at for at, lot in enumerate(lots) if not searched.is_free(lot)]
    times = {thing: sum(thing in lot for lot in lots) for thing in searched.things}
    twice = [thing for thing in searched.things if times[thing] > 1]
    out = [thing for thing in searched.things if times[thing] == 0]
    for word, found in (("lot", wrong), ("free", caught), ("twice", twice), ("out", out)):
        if found:
            return word, found[0]
    return None


def pack_word(searched, k, lots):
    """Judge a list of lists of strings as pack_fault is to do it."""
    fault = cover_word(searched, k, lots)
    if fault in (("form",), None) or fault[0] == "lot":
        fault = fault or ("out", "")
        if fault[0] != "out":
            return fault
    bases = searched.bases()
    caught = [at for at, lot in enumerate(lots) if sorted(lot) not in bases]
    if caught:
        return "base", caught[0]
    twice = [thing for thing in searched.things if sum(thing in lot for lot in lots) > 1]
    return ("twice", twice[0]) if twice else None


class Point_11_4(unittest.TestCase, Judging):
    def test_random_lists_of_lots(self):
        chance = Random(114)
        seen = set()
        for family, searched in some_families():
            things = searched.things
            for _ in range(25):
                k = chance.randint(0, 3)
                lots = [chance.sample(things, chance.randint(0, len(things))) for _ in range(k + chance.randint(0, 8) // 8)]
                if chance.randint(0, 9) == 0 and lots and things:
                    lots[-1].append(chance.choice([*things, "q"]))
                right = chance.choice([covered(family, k), packed(family, k)])
                if right is not None and chance.randint(0, 1):
                    lots = [lot[::-1] for lot in right]
                    if chance.randint(0, 1) and things and lots:
                        chance.choice(lots).append(chance.choice(things))
                for judge, word in ((cover_fault, cover_word), (pack_fault, pack_word)):
                    fault = judge(family, k, lots)
                    seen.add((judge.__name__, (fault or [None])[0]))
                    self.assertEqual(fault, word(searched, k, lots), lots)
        for word in (None, "form", "lot", "twice"):
            self.assertLessEqual({("cover_fault", word), ("pack_fault", word)}, seen)
        self.assertLessEqual({("cover_fault", "free"), ("cover_fault", "out"), ("pack_fault", "base")}, seen)

    def test_words_in_their_order(self):
        family = triangle()
        self.assertEqual(cover_fault(family, 2, [["ab", "ac", "bc"], ["q"]]), ("lot", 1))
        self.assertEqual(cover_fault(family, 2, [["ab", "ab"], ["q"]]), ("lot", 0))
        self.assertEqual(cover_fault(family, 3, [["ab", "ac"], ["bc", "ac", "ab"], ["ac", "bc", "ab"]]), ("free", 1))
        self.assertEqual(cover_fault(family, 3, [["bc", "ac"], ["bc"], ["ac"]]), ("twice", "ac"))
        self.assertEqual(cover_fault(family, 2, [["bc"], []]), ("out", "ab"))
        self.assertIsNone(cover_fault(family, 2, [["bc", "ac"], ["ab"]]))
        self.assertEqual(pack_fault(family, 2, [["ab"], ["q"]]), ("lot", 1))
        self.assertEqual(pack_fault(family, 2, [["ab", "ac"], ["bc"]]), ("base", 1))
        self.assertEqual(pack_fault(family, 2, [["ab", "ac"], ["bc", "ab"]]), ("twice", "ab"))
        self.assertIsNone(pack_fault(family, 1, [["bc", "ac"]]))

    def test_values_of_any_kind(self):
        family = triangle()
        for judge in (cover_fault, pack_fault):
            for value in BENT_LISTS:
                self.assertEqual(judge(family, 1, value), ("form",), value)
                self.assertEqual(judge(family, 1, [value]), ("form",), value)
            for value in [*BENT_LISTS, ["ab"]]:
                told = judge(family, 1, [["ab", value]])
                self.assertEqual(told, ("lot", 0) if isinstance(value, str) else ("form",), value)
            for value in ([], [["ab"], ["ac"]], ([["ab"]],), [("ab",)]):
                self.assertEqual(judge(family, 1, value), ("form",), value)

    def test_papers_by_counting(self):
        for family, searched in some_families():
            for lot in lots_of(searched.things)[::2]:
                for k in (0, 1, 2, 24):
                    self.assertIs(is_cover_paper(family, k, lot[::-1]), is_paper_of_cover(searched, k, lot))
                    self.assertIs(is_pack_paper(family, k, lot[::-1]), is_paper_of_pack(searched, k, lot))

    def test_papers_of_any_kind(self):
        for judge in (is_cover_paper, is_pack_paper):
            for value in [*BENT_LISTS, ["q"], ["ab", "ab"], ["ab", "ac", "bc", "q"], ["ab", "ac", "bc", None], [["ab"]],
                          [nested(list)], ["ab", nested(tuple)], ("ab", "ac", "bc")]:
                self.assertIs(judge(triangle(), 1, value), False, value)
        self.assertIs(is_cover_paper(triangle(), 1, ["bc", "ab", "ac"]), True)
        self.assertIs(is_pack_paper(triangle(), 2, []), True)


class Point_11_5(unittest.TestCase):
    def test_least_and_greatest_numbers(self):
        for family, searched in some_families():
            covers = [k for k in range(25) if covered(family, k) is not None]
            self.assertEqual(fewest(family), covers[0] if covers else None)
            self.assertIs(fewest(family) is None, searched.stuck() != [])
            packs = [k for k in range(25) if packed(family, k) is not None]
            full = searched.rank(searched.things)
            self.assertEqual(most(family), packs[-1] if full else None)

    def test_webs_with_thick_and_thin_places(self):
        # Their numbers are come to by several papers, one after the other.
        chance = Random(115)
        for _ in range(120):
            places = NAMES[:chance.randint(3, 8)]
            ties = {name: tuple(chance.sample(places[:chance.randint(2, len(places))], 2)) for name in NAMES[:24]}
            for family in (ties_family(Web(places, ties)), turned(ties_family(Web(places, ties)))):
                k = fewest(family)
                if k is not None:
                    self.assertIsNone(cover_fault(family, k, covered(family, k)))
                    self.assertTrue(is_cover_paper(family, k - 1, cover_paper(family, k - 1)))
                    self.assertIsNone(thickness_fault(family, thickness(family)))
                k = most(family)
                if k is not None:
                    self.assertIsNone(pack_fault(family, k, packed(family, k)))
                    self.assertTrue(is_pack_paper(family, k + 1, pack_paper(family, k + 1)))
                    self.assertIsNone(strength_fault(family, strength(family)))

    def test_edges(self):
        self.assertEqual((fewest(triangle()), most(triangle())), (2, 1))
        self.assertEqual((fewest(free_on([])), most(free_on([]))), (0, None))
        self.assertEqual((fewest(even(3, 0)), most(even(3, 0))), (None, None))
        self.assertEqual((fewest(even(24, 1)), most(even(24, 1))), (24, 24))
        self.assertEqual((fewest(even(24, 24)), most(even(24, 24))), (1, 1))
        self.assertEqual((fewest(even(24, 7)), most(even(24, 7))), (4, 3))
        stuck = joined(free_on(["a"]), named(even(2, 0), {"a": "x", "b": "y"}))
        self.assertEqual((fewest(stuck), most(stuck), is_cover_paper(stuck, 24, ["y"])), (None, 1, True))


def several_families(many):
    """Return many pairs of lists: families with the same things, and the same ones by plain search."""
    chance = Random(116)
    known = some_families()
    found = []
    while len(found) < many:
        size = len(chance.choice(known)[0])
        pairs = [chance.choice([pair for pair in known if len(pair[0]) == size]) for _ in range(chance.randint(1, 4))]
        names = [shuffled_names(family.things(), NAMES[:size], chance) for family, _ in pairs]
        found.append(([named(family, own) for (family, _), own in zip(pairs, names)],
                      [searched_named(searched, own) for (_, searched), own in zip(pairs, names)]))
    return found


def rank_of_union(several, lot):
    """Return the rank of a lot in the union by the words of point 11.7."""
    return min(len(lot) - len(part) + sum(searched.rank(part) for searched in several) for part in lots_of(lot))


class Point_11_6(unittest.TestCase, Judging):
    def test_parted_lots_or_papers(self):
        for families, several in several_families(120):
            whole = searched_union(several)
            for lot in lots_of(whole.things)[::2]:
                lots, paper = parted(families, lot[::-1]), parted_paper(families, lot[::-1])
                self.assertIs(lots is not None, whole.is_free(lot))
                self.assertIs(paper is None, whole.is_free(lot))
                if lots is not None:
                    self.assert_told_lots(lots)
                    self.assertEqual(len(lots), len(families))
                    self.assertEqual(sorted(thing for part in lots for thing in part), lot)
                    self.assertTrue(all(searched.is_free(part) for searched, part in zip(several, lots)))
                else:
                    self.assertEqual(paper, sorted(set(paper)))
                    self.assertLessEqual(set(paper), set(lot))
                    self.assertGreater(len(paper), sum(searched.rank(paper) for searched in several))

    def test_one_family_and_four_times_the_same(self):
        self.assertEqual(parted([triangle()], ["bc", "ab"]), [["ab", "bc"]])
        self.assertEqual(parted_paper([triangle()], ["bc", "ac", "ab"]), ["ab", "ac", "bc"])
        self.assertEqual(len(parted([triangle()] * 4, ["bc", "ac", "ab"])), 4)
        self.assertEqual(parted([free_on([])] * 2, []), [[], []])
        self.assertEqual((parted([even(2, 0)] * 2, []), parted([even(2, 0)] * 2, ["b"])), ([[], []], None))

    def test_errors_in_their_order(self):
        for call in (parted, parted_paper):
            self.raises(UnlikeThings(), call, [even(2, 1), even(2, 2), even(3, 1)], ["q"])
            self.raises(UnlikeThings(), call, [even(2, 1), free_on(["a", "c"])], ["q"])
            self.raises(BadLot(1), call, [even(2, 1), even(2, 2)], ["b", "b", "q"])
            self.raises(BadLot(0), call, [even(2, 1)], ["q"])


class Point_11_7(unittest.TestCase, Telling):
    def test_free_lots_and_ranks(self):
        for families, several in several_families(120):
            made = union(families)
            self.assertIsInstance(made, Family)
            whole = searched_union(several)
            self.assertEqual(made.things(), whole.things)
            self.assertEqual(free_lots(made), whole.free_lots())
            for lot in lots_of(whole.things)[::3]:
                self.assertEqual(made.rank(lot[::-1]), rank_of_union(several, lot))

    def test_unions_of_unions(self):
        for families, several in several_families(60):
            made = union([union(families), turned(union([turned(families[0])])), families[-1]])
            self.assertEqual(free_lots(made), searched_union([*several, several[0], several[-1]]).free_lots())

    def test_covers_and_packs_by_unions(self):
        for family, searched in some_families():
            for k in (1, 2, 3, 4):
                made = union([family] * k)
                self.assertIs(made.is_free(family.things()), covered(family, k) is not None)
                full = made.rank(family.things()) == k * family.rank(family.things())
                self.assertIs(full, packed(family, k) is not None)

    def test_sixty_unions(self):
        family = even(24, 2)
        for at in range(60):
            family = union([family, cut_short(even(24, 2), at // 59)])
        self.assertEqual((family.rank(NAMES[:24]), family.base()), (3, NAMES[:3]))
        family = even(24, 1)
        for _ in range(60):
            family = union([family] * 4)
        self.assertEqual(family.sure(), NAMES[:24])

    def test_sixty_makings_with_unions_and_turned_ones(self):
        first = counts_family(Counts(NAMES[:24], [(NAMES[at:at + 8], 3) for at in range(0, 24, 8)]))
        one = cut_short(even(24, 3), 1)
        chance = Random(117)
        family = first
        for round_ in range(1, 16):
            # One thing more is free besides, then no more things than before.
            family = turned(union([turned(union([family, one])), one]))
            if round_ in (1, 2, 15):
                for _ in range(30):
                    lot = chance.sample(NAMES[:24], chance.randint(0, 24))
                    self.assertEqual(family.rank(lot), min(9, len(lot), first.rank(lot) + round_))
        self.assertEqual(Fraction(*thickness(family)[:2]), Fraction(24, 9))

    def test_unlike_things(self):
        self.raises(UnlikeThings(), union, [even(2, 1), even(2, 1), even(3, 1)])
        self.raises(UnlikeThings(), union, [even(2, 1), free_on(["a", "c"])])


def times_of(lots, thing):
    return sum(thing in lot for lot in lots)


class Point_11_8(unittest.TestCase, Judging):
    def test_thickness_by_going_through_all(self):
        for family, searched in some_families():
            told = thickness(family)
            if not searched.things or searched.stuck():
                self.assertIsNone(told)
                continue
            self.assertIsInstance(told, tuple)
            p, q, lot, lots = told
            self.assertEqual((Fraction(p, q), gcd(p, q)), (thickest(searched), 1))
            self.assertEqual((lot, len(lot) * q), (sorted(set(lot)), p * searched.rank(lot)))
            self.assertGreater(searched.rank(lot), 0)
            self.assert_told_lots(lots)
            self.assertEqual(len(lots), p)
            self.assertTrue(all(searched.is_free(part) for part in lots))
            self.assertEqual({times_of(lots, thing) for thing in searched.things}, {q})
            self.assertEqual(fewest(family), -(-p // q))

    def test_document_example(self):
        p, q, lot, lots = thickness(triangle())
        self.assertEqual((p, q, lot, sorted(lots)), (3, 2, ["ab", "ac", "bc"], [["ab", "ac"], ["ab", "bc"], ["ac", "bc"]]))

    def test_24_things(self):
        for rank in (1, 5, 7, 12, 23, 24):
            told = thickness(even(24, rank))
            self.assertEqual(Fraction(*told[:2]), Fraction(24, rank))
            self.assertIsNone(thickness_fault(even(24, rank), told))
        self.assertIsNone(thickness(even(24, 0)))


class Point_11_9(unittest.TestCase, Judging):
    def test_strength_by_going_through_all(self):
        for family, searched in some_families():
            told = strength(family)
            full = searched.rank(searched.things)
            if full == 0:
                self.assertIsNone(told)
                continue
            self.assertIsInstance(told, tuple)
            p, q, lot, lots = told
            self.assertEqual((Fraction(p, q), gcd(p, q)), (weakest(searched), 1))
            self.assertLess(searched.rank(lot), full)
            self.assertEqual((lot, len(rest_of(searched.things, lot)) * q), (sorted(set(lot)), p * (full - searched.rank(lot))))
            self.assert_told_lots(lots)
            self.assertEqual(len(lots), p)
            self.assertTrue(all(part in searched.bases() for part in lots))
            self.assertTrue(all(times_of(lots, thing) <= q for thing in searched.things))
            self.assertEqual(most(family), p // q)

    def test_document_example(self):
        p, q, lot, lots = strength(triangle())
        self.assertEqual((p, q, lot, sorted(lots)), (3, 2, [], [["ab", "ac"], ["ab", "bc"], ["ac", "bc"]]))

    def test_24_things(self):
        for rank in (1, 5, 7, 12, 23, 24):
            told = strength(even(24, rank))
            self.assertEqual(Fraction(*told[:2]), Fraction(24, rank))
            self.assertIsNone(strength_fault(even(24, rank), told))
        self.assertIsNone(strength(even(24, 0)))


class Point_11_10(unittest.TestCase):
    def test_right_answers_of_the_document(self):
        lots = [["bc", "ac"], ["ab", "bc"], ["ac", "ab"]]
        self.assertIsNone(thickness_fault(triangle(), (3, 2, ["bc", "ac", "ab"], lots)))
        self.assertIsNone(strength_fault(triangle(), (3, 2, [], lots)))

    def test_forms(self):
        lot, lots = ["ab", "ac", "bc"], [["ab", "ac"], ["ab", "bc"], ["ac", "bc"]]
        bent = [*BENT_LISTS, [3, 2, lot, lots], (3, 2, lot), (3, 2, lot, lots, 1), (0, 1, lot, []), (3, 0, lot, lots),
                (-3, -2, lot, lots), (25, 1, lot, [[]] * 25), (1, 25, lot, [[]]), (6, 4, lot, lots * 2), (True, 1, lot, [[]]),
                (1, True, lot, [[]]), ("3", 2, lot, lots), (3, None, lot, lots), (3, 2, tuple(lot), lots), (3, 2, None, lots),
                (3, 2, [1], lots), (3, 2, lot, tuple(lots)), (3, 2, lot, lots[:2]), (3, 2, lot, lots + [[]]),
                (3, 2, lot, [["ab"], ["ac"], ("bc",)]), (3, 2, lot, [["ab"], ["ac"], [None]]), (3, 2, lot, ["ab", "ac", "bc"]),
                (3, 2, lot, nested(list)), (nested(list), 2, lot, lots), (3, nested(tuple), lot, lots), (3, 2, nested(list), lots),
                (3, 2, [nested(list)], lots), (3, 2, lot, [[nested(list)], ["ab"], ["ac"]])]
        for value in bent:
            for judge in (thickness_fault, strength_fault):
                self.assertEqual(judge(triangle(), value), ("form",), value)

    def test_papers(self):
        lot, lots = ["ab", "ac", "bc"], [["ab", "ac"], ["ab", "bc"], ["ac", "bc"]]
        for paper in (["ab", "ac"], [], ["q"], ["ab", "ab", "ac"], ["ab", "ac", "q"], ["ab", "ac", "bc", "bc"]):
            self.assertEqual(thickness_fault(triangle(), (3, 2, paper, lots)), ("paper",))
        for paper in (["ab"], lot, ["q"], ["ab", "ac"], ["ab", "ab"]):
            self.assertEqual(strength_fault(triangle(), (3, 2, paper, lots)), ("paper",))
        for judge, paper in ((thickness_fault, lot), (strength_fault, [])):
            self.assertEqual(judge(triangle(), (4, 3, paper, [["q"]] * 4)), ("paper",))
            self.assertEqual(judge(triangle(), (2, 3, paper, lots[:2])), ("paper",))

    def test_lots_and_times(self):
        lot, lots = ["ab", "ac", "bc"], [["ab", "ac"], ["ab", "bc"], ["ac", "bc"]]
        for judge, paper, word in ((thickness_fault, lot, "free"), (strength_fault, [], "base")):
            self.assertEqual(judge(triangle(), (3, 2, paper, [lot, ["ab", "q"], ["q"]])), ("lot", 1))
            self.assertEqual(judge(triangle(), (3, 2, paper, [lot, ["ab"], ["bc", "bc"]])), ("lot", 2))
            self.assertEqual(judge(triangle(), (3, 2, paper, [lots[0], lot, lot])), (word, 1))
            self.assertEqual(judge(triangle(), (3, 2, paper, [lots[2], lots[2], lots[2]])),
                             ("times", "ab" if word == "free" else "ac"))
            self.assertEqual(judge(triangle(), (3, 2, paper, [lots[0]] * 2 + [lots[1]])),
                             ("times", "ab"))
        self.assertEqual(thickness_fault(triangle(), (3, 2, lot, [["ab"], ["ac"], ["ac", "bc"]])), ("times", "ab"))
        self.assertEqual(strength_fault(triangle(), (3, 2, [], [["ab"], ["ac"], ["ac", "bc"]])), ("base", 0))

    def test_strength_lets_things_be_in_fewer_lots(self):
        family = counts_family(Counts(["a", "b", "c"], [(["a", "b"], 1)]))
        self.assertIsNone(strength_fault(family, (1, 1, ["b", "a"], [["a", "c"]])))
        self.assertEqual(thickness_fault(family, (2, 1, ["a", "b"], [["a", "c"], ["b", "c"]])), ("times", "c"))
        self.assertIsNone(thickness_fault(family, (2, 1, ["a", "b"], [["a", "c"], ["b"]])))

    def test_every_right_answer_of_small_families_and_bent_ones(self):
        chance = Random(1110)
        for family, searched in some_families():
            for call, judge in ((thickness, thickness_fault), (strength, strength_fault)):
                told = call(family)
                if told is None:
                    continue
                p, q, lot, lots = told
                self.assertIsNone(judge(family, (p, q, lot[::-1], [part[::-1] for part in lots[::-1]])))
                thing = chance.choice(searched.things)
                self.assertIsNotNone(judge(family, (p, q, lot, [[*part, thing] for part in lots])))
                self.assertEqual(judge(family, (p, q, lot + ["zz"], lots)), ("paper",))
                self.assertEqual(judge(family, (p, q, lot, lots[:-1])), ("form",))

    def test_families_of_which_none_is_told(self):
        for lots in ([[]], [["a"]], [["b"]]):
            for lot in ([], ["a"], ["b"], ["a", "b"]):
                stuck = cut_short(joined(free_on(["a"]), named(even(1, 0), {"a": "b"})), 1)
                self.assertIsNotNone(thickness_fault(stuck, (1, 1, lot, lots)))
                self.assertIsNotNone(strength_fault(even(2, 0), (1, 1, lot, lots)))
        self.assertEqual(thickness_fault(free_on([]), (1, 1, [], [[]])), ("paper",))
        self.assertEqual(strength_fault(free_on([]), (1, 1, [], [[]])), ("paper",))


if __name__ == "__main__":
    unittest.main()
