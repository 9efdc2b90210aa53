"""Points 2.1 to 2.5: webs and their ties."""

import unittest

from bothfree.errors import BadLot, BadPlaces, BadTies, NoThing, TooMany
from bothfree.families import Family, bases, rings
from bothfree.webs import Web, cut_of, is_cut, pieces, ring_in, ties_family
from tests.helpers import NAMES, ODD_VALUES, Telling, fallen_pieces, lots_of, nested, some_webs, triangle_web


class Point_2_1(unittest.TestCase, Telling):
    def test_one_place_and_no_ties(self):
        web = Web(["a"], {})
        self.assertEqual((web.places(), web.ties()), (["a"], {}))

    def test_sixteen_places_and_seventeen(self):
        self.assertEqual(Web(NAMES[:16], {}).places(), NAMES[:16])
        self.raises(BadPlaces(-1), Web, NAMES[:17], {})
        self.raises(BadPlaces(-1), Web, ["a"] * 17, {})
        self.raises(BadPlaces(15), Web, NAMES[:15] + ["a"], {})

    def test_no_places(self):
        self.raises(BadPlaces(-1), Web, [], {})
        self.raises(BadPlaces(-1), Web, [], {"X": 3})

    def test_wrong_places(self):
        self.raises(BadPlaces(0), Web, ["A", "a", "a"], {})
        self.raises(BadPlaces(1), Web, ["a", "a", ""], {})
        self.raises(BadPlaces(2), Web, ["abcdefgh", "b", "abcdefghi"], {})
        self.raises(BadPlaces(1), Web, ["a", "b c"], {"A": None})

    def test_wrong_names_of_ties(self):
        for name in ("", "abcdefghi", "A", "x1", "x y", "x-y"):
            self.raises(BadTies(name), Web, ["a"], {name: ("a", "a")})

    def test_the_least_wrong_tie_is_told(self):
        self.raises(BadTies("X"), Web, ["a"], {"x": 1, "X": ("a", "a"), "y": ("a", "a")})
        self.raises(BadTies("w"), Web, ["a"], {"x": 1, "w": ("a", "b"), "v": ("a", "a")})

    def test_values_that_are_no_two_places(self):
        wrong = [["a", "b"], ("a",), ("a", "b", "a"), (), ("a", "c"), ("c", "a"), "ab", ("a", 1), ("a", None),
                 (["a"], "b"), ("a", {"b": 1}), (("a",), ("b",)), ("a", b"b"), 0, nested(list), nested(tuple),
                 (nested(tuple), "a"), ("a", {"a"}), ("a", "")]
        for value in wrong + ODD_VALUES:
            self.raises(BadTies("t"), Web, ["a", "b"], {"t": value, "s": ("a", "b")})

    def test_24_ties_and_25(self):
        ties = {name: ("a", "b") for name in NAMES[:24]}
        self.assertEqual(len(Web(["a", "b"], ties).ties()), 24)
        ties["zz"] = ("a", "a")
        self.raises(TooMany(24), Web, ["a", "b"], ties)
        ties["y"] = ("a", "c")
        self.raises(BadTies("y"), Web, ["a", "b"], ties)

    def test_a_tie_may_have_the_name_of_a_place(self):
        self.assertEqual(Web(["a", "b"], {"a": ("b", "a")}).ties(), {"a": ("a", "b")})


class Point_2_2(unittest.TestCase, Telling):
    def test_places_ties_and_ends(self):
        web = Web(["c", "a", "b"], {"y": ("c", "a"), "x": ("a", "b"), "l": ("c", "c")})
        self.assertEqual(web.places(), ["a", "b", "c"])
        self.assertEqual(web.ties(), {"l": ("c", "c"), "x": ("a", "b"), "y": ("a", "c")})
        self.assertEqual([web.ends(tie) for tie in ("l", "x", "y")], [("c", "c"), ("a", "b"), ("a", "c")])

    def test_ends_of_what_is_no_tie(self):
        for name in ("a", "", "xx", "X"):
            self.raises(NoThing(name), triangle_web().ends, name)

    def test_equal_webs(self):
        web = Web(["a", "b"], {"x": ("a", "b"), "y": ("b", "b")})
        self.assertTrue(web == Web(["b", "a"], {"y": ("b", "b"), "x": ("b", "a")}))
        self.assertFalse(web != Web(["b", "a"], {"y": ("b", "b"), "x": ("b", "a")}))
        for other in (Web(["a", "b", "c"], web.ties()), Web(["a", "b"], {"x": ("a", "b")}),
                      Web(["a", "b"], {"x": ("a", "b"), "z": ("b", "b")}),
                      Web(["a", "b"], {"x": ("a", "b"), "y": ("a", "b")})):
            self.assertFalse(web == other)
            self.assertTrue(web != other)

    def test_methods_stand_in_the_class_itself(self):
        for name in ("places", "ties", "ends", "__eq__"):
            self.assertIn(name, vars(Web))


class Point_2_3(unittest.TestCase, Telling):
    def test_document_example(self):
        family = ties_family(triangle_web())
        self.assertIsInstance(family, Family)
        self.assertEqual(rings(family), [["l"], ["x", "y", "z"]])
        self.assertEqual(bases(family), [["x", "y"], ["x", "z"], ["y", "z"]])
        self.assertEqual(family.stuck(), ["l"])

    def test_pieces_and_ranks(self):
        for web in some_webs():
            family = ties_family(web)
            self.assertEqual(family.things(), sorted(web.ties()))
            for lot in lots_of(family.things()):
                expected = fallen_pieces(web.places(), [web.ends(tie) for tie in lot])
                self.assertEqual(pieces(web, lot[::-1]), expected)
                self.assertEqual(family.rank(lot), len(web.places()) - len(expected))

    def test_rings_are_the_ways_round(self):
        ties = {"p": ("a", "b"), "q": ("b", "a"), "r": ("b", "c"), "s": ("c", "a"), "t": ("d", "d"), "u": ("c", "d")}
        web = Web(["a", "b", "c", "d"], ties)
        self.assertEqual(rings(ties_family(web)), [["t"], ["p", "q"], ["p", "r", "s"], ["q", "r", "s"]])

    def test_no_ties(self):
        web = Web(["b", "a"], {})
        self.assertEqual(pieces(web, []), [["a"], ["b"]])
        self.assertEqual((ties_family(web).things(), bases(ties_family(web))), ([], [[]]))

    def test_wrong_lots(self):
        self.raises(BadLot(1), pieces, triangle_web(), ["x", "a"])
        self.raises(BadLot(2), pieces, triangle_web(), ["x", "y", "x"])

    def test_the_greatest_web(self):
        places = NAMES[:16]
        ties = {NAMES[at]: (places[at], places[at + 1]) for at in range(15)}
        ties.update({"r" + NAMES[at]: (places[at], places[15]) for at in range(9)})
        family = ties_family(Web(places, ties))
        self.assertEqual((len(family), family.rank(family.things()), family.base()), (24, 15, NAMES[:15]))
        self.assertEqual(pieces(Web(places, ties), NAMES[:14]), [places[:15], places[15:]])


class Point_2_4(unittest.TestCase, Telling):
    def assert_goes_round(self, web, lot, ring):
        self.assertTrue(set(ring) <= set(lot))
        self.assertEqual(len(set(ring)), len(ring))
        # The places of the way: either end of the first tie may be the first place.
        fitting = [way for way in (self.way(web, ring, start) for start in web.ends(ring[0])) if way is not None]
        self.assertTrue(any(len(set(way)) == len(way) for way in fitting), (lot, ring))

    def way(self, web, ring, start):
        """Return the places of the ring from this one on, or None if one does not come back to it."""
        places = [start]
        for tie in ring:
            ends = list(web.ends(tie))
            if places[-1] not in ends:
                return None
            ends.remove(places[-1])
            places.append(ends[0])
        return places[:-1] if places[-1] == start else None

    def test_every_lot_has_a_ring_or_is_free(self):
        for web in some_webs():
            family = ties_family(web)
            for lot in lots_of(family.things()):
                ring = ring_in(web, lot[::-1])
                if family.is_free(lot):
                    self.assertIsNone(ring)
                else:
                    self.assert_goes_round(web, lot, ring)
                    self.assertIn(sorted(ring), rings(family))

    def test_short_rings(self):
        web = Web(["a", "b"], {"x": ("a", "b"), "y": ("b", "a"), "z": ("b", "b")})
        self.assertEqual(ring_in(web, ["x", "z"]), ["z"])
        self.assertEqual(sorted(ring_in(web, ["y", "x"])), ["x", "y"])
        self.assertIsNone(ring_in(web, []))

    def test_a_long_ring_is_told_in_the_order_of_going_round(self):
        ends = [("a", "d"), ("d", "b"), ("b", "f"), ("f", "c"), ("c", "e"), ("e", "a")]
        web = Web(NAMES[:7], {**dict(zip(["v", "r", "w", "s", "u", "t"], ends)), "q": ("g", "b"), "p": ("g", "c")})
        lot = ["r", "s", "t", "u", "v", "w", "q"]
        self.assert_goes_round(web, lot, ring_in(web, lot))
        self.assertEqual(len(ring_in(web, lot)), 6)

    def test_wrong_lots(self):
        self.raises(BadLot(0), ring_in, triangle_web(), ["a", "l"])
        self.raises(BadLot(1), ring_in, triangle_web(), ["l", "l"])


class Point_2_5(unittest.TestCase, Telling):
    def test_document_example(self):
        web = triangle_web()
        cuts = [lot for lot in lots_of(["l", "x", "y", "z"]) if is_cut(web, lot)]
        self.assertEqual(cuts, [["x", "y"], ["x", "z"], ["y", "z"]])

    def test_cut_of_a_side(self):
        web = triangle_web()
        told = [cut_of(web, side) for side in ([], ["a"], ["b"], ["c"], ["c", "a"], ["b", "a", "c"])]
        self.assertEqual(told, [[], ["x", "z"], ["x", "y"], ["y", "z"], ["x", "y"], []])

    def test_wrong_sides(self):
        web = triangle_web()
        self.raises(BadPlaces(0), cut_of, web, ["x", "a"])
        self.raises(BadPlaces(1), cut_of, web, ["a", "a", "x"])
        self.raises(BadPlaces(2), cut_of, web, ["c", "b", ""])

    def test_a_cut_is_a_least_lot_without_which_the_web_falls_apart(self):
        for web in some_webs():
            ties = web.ties()
            whole = len(fallen_pieces(web.places(), list(ties.values())))
            parting = []
            for lot in lots_of(list(ties)):
                rest = [ends for tie, ends in ties.items() if tie not in lot]
                if len(fallen_pieces(web.places(), rest)) > whole:
                    least = not any(part < set(lot) for part in parting)
                    parting.append(set(lot))
                    self.assertIs(is_cut(web, lot[::-1]), least)
                else:
                    self.assertIs(is_cut(web, lot), False)

    def test_each_cut_of_a_side_can_be_parted_into_cuts(self):
        for web in some_webs():
            cuts = [set(lot) for lot in lots_of(list(web.ties())) if is_cut(web, lot)]
            for side in lots_of(web.places()):
                self.assertTrue(self.can_be_parted(set(cut_of(web, side[::-1])), cuts))

    def can_be_parted(self, lot, cuts):
        if not lot:
            return True
        return any(min(lot) in cut and cut <= lot and self.can_be_parted(lot - cut, cuts) for cut in cuts)

    def test_the_cuts_are_the_rings_of_the_turned_family(self):
        for web in some_webs():
            family = ties_family(web)
            things = family.things()
            for lot in lots_of(things):
                rests = [[tie for tie in things if tie not in lot or tie == back] for back in [None, *lot]]
                parted = family.rank(rests[0]) < family.rank(things)
                healed = all(family.rank(rest) == family.rank(things) for rest in rests[1:])
                self.assertIs(is_cut(web, lot), parted and healed)

    def test_is_cut_of_a_wrong_lot(self):
        self.assertIs(is_cut(triangle_web(), []), False)
        self.raises(BadLot(0), is_cut, triangle_web(), ["a"])
        self.raises(BadLot(2), is_cut, triangle_web(), ["x", "y", "y"])
