"""Points 6.1 to 6.4: things in rooms, and what the rooms leave."""

import unittest
from itertools import combinations, product

from bothfree.counts import Counts, counts_family, over_full, room_bound, room_fault, tight
from bothfree.errors import BadLot, BadRooms, BadThings, CrossedRooms, NotFree
from bothfree.families import Family, bases
from tests.helpers import NAMES, ODD_VALUES, Telling, fits_rooms, lots_of, nested, rooms, searched_counts, some_counts


def inner(room, lot):
    return len(set(room) & set(lot))


def fault_of(counts, lot, part, chosen):
    """Judge two values of any kind as room_fault is to do it, word by word."""
    if not isinstance(part, list) or any(part.count(thing) > 1 or thing not in lot for thing in part):
        return "part"
    if not fits_rooms(counts, part):
        return "free"
    indexes = range(len(counts.rooms()))
    if not isinstance(chosen, list) or any(at.__class__ is not int or at not in indexes for at in chosen):
        return "rooms"
    lots = [set(counts.rooms()[at][0]) for at in chosen]
    if len(set(chosen)) < len(chosen) or any(one & other for one, other in combinations(lots, 2)):
        return "rooms"
    total = sum(counts.rooms()[at][1] for at in chosen) + len(set(lot).difference(*lots))
    return None if len(part) == total else "many"


class Point_6_1(unittest.TestCase, Telling):
    def test_things_and_rooms(self):
        counts = Counts(["c", "a", "b"], [(["c", "a"], 10 ** 40), ([], 0), (["b", "c", "a"], 2)])
        self.assertEqual(counts.things(), ["a", "b", "c"])
        self.assertEqual(counts.rooms(), [(["a", "c"], 10 ** 40), ([], 0), (["a", "b", "c"], 2)])
        self.assertEqual((Counts([], []).things(), Counts([], []).rooms()), ([], []))

    def test_24_things_and_25(self):
        self.assertEqual(Counts(NAMES[23::-1], []).things(), NAMES[:24])
        self.raises(BadThings(-1), Counts, NAMES[:25], [])
        self.raises(BadThings(-1), Counts, [None] * 25, [None] * 61)
        self.raises(BadThings(23), Counts, NAMES[:23] + ["a"], [])

    def test_things_of_any_kind(self):
        for thing in [*ODD_VALUES, 5, ["a"], ("a",), nested(list), nested(tuple), "a b", "a\n", "\u00e4"]:
            self.raises(BadThings(1), Counts, ["a", thing, "a"], [None])
        self.raises(BadThings(2), Counts, ["a", "b", "a", None], [None])

    def test_60_rooms_and_61(self):
        self.assertEqual(len(Counts(["a"], [(["a"], 1)] * 60).rooms()), 60)
        self.raises(BadRooms(-1), Counts, ["a"], [(["a"], 1)] * 61)
        self.raises(BadRooms(-1), Counts, ["a"], [None] * 61)

    def test_rooms_of_any_kind(self):
        good = (["a"], 1)
        for room in [*ODD_VALUES, 5, "ab", ["a", 1], [["a"], 1], (), (["a"],), (["a"], 1, 1), (("a",), 1), ("a", 1),
                     ({"a": 1}, 1), ({"a"}, 1), (None, 1), (["a", "a"], 1), (["d"], 1), ([""], 1), ([None], 1),
                     ([["a"]], 1), ([("a",)], 1), ([nested(list)], 1), (nested(list), 1), (["a"], -1), (["a"], True),
                     (["a"], None), (["a"], "1"), (["a"], [1]), (["a"], nested(tuple)), nested(list), nested(tuple)]:
            self.raises(BadRooms(1), Counts, ["a", "b", "c"], [good, room, None])

    def test_wrong_rooms_come_ahead_of_crossed_ones(self):
        self.raises(BadRooms(2), Counts, ["a", "b", "c"], [(["a", "b"], 1), (["b", "c"], 1), (["d"], 1)])

    def test_crossed_rooms(self):
        things = NAMES[:5]
        ab, bc, cd = (["a", "b"], 1), (["b", "c"], 1), (["d", "c"], 1)
        self.raises(CrossedRooms(0, 1), Counts, things, [ab, bc])
        self.raises(CrossedRooms(1, 2), Counts, things, [(["e"], 0), bc, cd, ab])
        self.raises(CrossedRooms(0, 3), Counts, things, [ab, (["e"], 0), cd, bc, (["b", "e"], 1)])
        self.raises(CrossedRooms(1, 3), Counts, things, [(["e"], 1), ab, cd, bc])
        self.raises(CrossedRooms(0, 2), Counts, things, [ab, (["c", "d", "e"], 1), (["b", "c", "d"], 1)])

    def test_rooms_within_one_another_are_not_crossed(self):
        told = [(["a", "b", "c"], 2), (["b"], 0), (["b", "c"], 1), ([], 5), (["b", "c"], 9), (["d"], 1)]
        self.assertEqual(Counts(NAMES[:4], told).rooms(), told)

    def test_first_pairs_by_plain_search(self):
        lots = lots_of(["a", "b", "c", "d"])[5:]
        for three in product(lots, repeat=3):
            crossed = [(one, other) for one, other in combinations(range(3), 2)
                       if inner(three[one], three[other]) not in (0, len(three[one]), len(three[other]))]
            if crossed:
                self.raises(CrossedRooms(*crossed[0]), Counts, ["d", "c", "b", "a"], [(lot, 1) for lot in three])

    def test_equal_counts(self):
        counts = Counts(["a", "b"], [(["a", "b"], 1), (["a"], 0)])
        self.assertTrue(counts == Counts(["b", "a"], [(["b", "a"], 1), (["a"], 0)]))
        self.assertFalse(counts != Counts(["b", "a"], [(["b", "a"], 1), (["a"], 0)]))
        for other in (Counts(["a", "b"], [(["a"], 0), (["a", "b"], 1)]), Counts(["a", "b"], [(["a", "b"], 1)]),
                      Counts(["a", "b", "c"], [(["a", "b"], 1), (["a"], 0)]),
                      Counts(["a", "b"], [(["a", "b"], 2), (["a"], 0)])):
            self.assertFalse(counts == other)
            self.assertTrue(counts != other)
        for value in [*ODD_VALUES, (["a", "b"], []), nested(list), 0]:
            self.assertFalse(counts == value)

    def test_methods_stand_in_the_class_itself(self):
        for name in ("things", "rooms", "__eq__"):
            self.assertIn(name, vars(Counts))


class Point_6_2(unittest.TestCase, Telling):
    def test_those_lots_are_free_that_fit_all_rooms(self):
        for counts in some_counts():
            family = counts_family(counts)
            self.assertIsInstance(family, Family)
            self.assertEqual(family.things(), counts.things())
            for lot in lots_of(counts.things()):
                self.assertIs(family.is_free(lot), fits_rooms(counts, lot))

    def test_a_room_that_stands_there_twice_has_the_lesser_number(self):
        for numbers in ((1, 2), (2, 1)):
            counts = Counts(["a", "b", "c"], [(["a", "b"], number) for number in numbers])
            self.assertEqual(bases(counts_family(counts)), [["a", "c"], ["b", "c"]])
            self.assertEqual(over_full(counts, ["b", "a"]), numbers.index(1))

    def test_no_rooms_and_rooms_with_the_number_0(self):
        self.assertEqual(counts_family(Counts(["b", "a"], [])).sure(), ["a", "b"])
        self.assertEqual(counts_family(Counts(["b", "a"], [(["b"], 0), ([], 0)])).stuck(), ["b"])
        self.assertEqual(bases(counts_family(Counts([], [([], 0)]))), [[]])

    def test_document_example(self):
        self.assertTrue(counts_family(rooms()).is_free(["a", "c"]))
        self.assertEqual((tight(rooms(), ["c", "a"]), over_full(rooms(), ["c", "a"])), ([0, 1], None))

    def test_over_full_and_tight_by_plain_counting(self):
        for counts in some_counts():
            told = counts.rooms()
            for lot in lots_of(counts.things()):
                over = [at for at, (room, number) in enumerate(told) if inner(room, lot) > number]
                self.assertEqual(over_full(counts, lot[::-1]), over[0] if over else None)
                if over:
                    self.raises(NotFree(), tight, counts, lot[::-1])
                else:
                    just = [at for at, (room, number) in enumerate(told) if inner(room, lot) == number]
                    self.assertEqual(tight(counts, lot[::-1]), just)

    def test_wrong_lots(self):
        for call in (over_full, tight, room_bound):
            self.raises(BadLot(0), call, rooms(), ["d", "a", "a"])
            self.raises(BadLot(1), call, rooms(), ["a", "a", "b"])
            self.raises(BadLot(3), call, rooms(), ["a", "b", "c", ""])

    def test_24_things(self):
        counts = Counts(NAMES[:24], [(NAMES[at:at + 4], 2) for at in range(0, 24, 4)] + [(NAMES[:12], 4), (NAMES[:24], 9)])
        family = counts_family(counts)
        self.assertEqual((family.rank(NAMES[:24]), family.rank(NAMES[:12]), family.rank(NAMES[:4])), (9, 4, 2))
        self.assertEqual(family.base(), ["a", "b", "e", "f", "m", "n", "q", "r", "u"])


class Point_6_3(unittest.TestCase):
    def test_both_show_one_another(self):
        for counts in some_counts():
            searched = searched_counts(counts)
            for lot in lots_of(counts.things()):
                told = room_bound(counts, lot[::-1])
                self.assertIsInstance(told, tuple)
                part, chosen = told
                self.assertEqual((part, chosen), (sorted(part), sorted(chosen)))
                self.assertEqual(len(part), searched.rank(lot))
                self.assertIsNone(fault_of(counts, lot, part, chosen))
                self.assertIsNone(room_fault(counts, lot, part, chosen))

    def test_document_example(self):
        part, chosen = room_bound(rooms(), ["a", "b", "c"])
        self.assertEqual((len(part), chosen in ([0], [1])), (2, True))

    def test_rooms_within_rooms(self):
        counts = Counts(NAMES[:6], [(NAMES[:6], 5), (NAMES[:3], 2), (["a", "b"], 1), (["d"], 0)])
        part, chosen = room_bound(counts, NAMES[5::-1])
        self.assertEqual((len(part), chosen), (4, [2, 3]))


class Point_6_4(unittest.TestCase, Telling):
    def test_document_examples(self):
        self.assertIsNone(room_fault(rooms(), ["a", "b", "c"], ["c", "b"], [0]))
        self.assertEqual(room_fault(rooms(), ["a", "b"], ["b"], []), "many")
        self.assertEqual(room_fault(rooms(), ["a"], ["c"], []), "part")

    def test_wrong_lots(self):
        self.raises(BadLot(0), room_fault, rooms(), ["d", "a", "a"], None, None)
        self.raises(BadLot(1), room_fault, rooms(), ["a", "a"], ["a"], [0])

    def test_parts_of_any_kind(self):
        for part in [*ODD_VALUES, "a", 5, ("a",), {"a": 1}, ["a", "a"], ["d"], ["b"], [None], [1], [True], [["a"]],
                     [("a",)], [{"a": 1}], ["a", nested(list)], nested(list), nested(tuple)]:
            self.assertEqual(room_fault(rooms(), ["a", "c"], part, None), "part", part)

    def test_parts_that_are_not_free(self):
        self.assertEqual(room_fault(rooms(), ["a", "b"], ["b", "a"], None), "free")

    def test_rooms_of_any_kind(self):
        for chosen in [*ODD_VALUES, "0", 0, (0,), {0: 1}, {0}, [0, 0], [2], [-1], [True], [False], [None], ["0"], [[0]],
                       [(0,)], [0, 1], [1, 0], nested(list), nested(tuple), [10 ** 30]]:
            self.assertEqual(room_fault(rooms(), ["a", "c"], ["c", "a"], chosen), "rooms", chosen)

    def test_indexes_may_stand_in_any_order(self):
        counts = Counts(["a", "b", "c"], [(["a"], 0), (["b"], 0), ([], 0), ([], 1)])
        self.assertIsNone(room_fault(counts, ["a", "b", "c"], ["c"], [1, 0]))
        self.assertIsNone(room_fault(counts, ["a", "b", "c"], ["c"], [2, 1, 0]))
        self.assertEqual(room_fault(counts, ["a", "b", "c"], ["c"], [2, 1, 0, 3]), "many")

    def test_all_small_values_are_judged(self):
        for counts in some_counts():
            if len(counts.things()) < 5 and len(counts.rooms()) < 5:
                indexes = range(len(counts.rooms()))
                choices = [list(chosen) for many in range(3) for chosen in product(indexes, repeat=many)]
                for lot in (counts.things(), counts.things()[1:]):
                    for part, chosen in product(lots_of(counts.things()), choices):
                        self.assertEqual(room_fault(counts, lot, part, chosen), fault_of(counts, lot, part, chosen))


if __name__ == "__main__":
    unittest.main()
