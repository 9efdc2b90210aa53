"""Points 4.1 to 4.6: places, one-way steps, and doors that get roads of their own."""

import unittest

from bothfree.errors import BadDoors, BadGates, BadLot, BadPlaces, BadSteps
from bothfree.families import Family, bases
from bothfree.hires import Hires, hires_family
from bothfree.roads import Roads, cut_places, roads_family, turned_hires, ways, ways_most
from tests.helpers import NAMES, Telling, all_roads, can_go, crossing, lots_of, searched_roads, some_roads


def ladder(rungs):
    """Return roads of places in two rows of many, with steps ahead and across, doors at one end, gates at the other."""
    upper, lower = NAMES[:rungs], NAMES[rungs:2 * rungs]
    steps = [pair for row in (upper, lower) for pair in zip(row, row[1:])] + list(zip(upper, lower))
    return Roads(upper + lower, steps, [upper[0], lower[0]], [upper[-1], lower[-1]])


class Judging(Telling):
    """Judges what ways and the like tell, by the words of the document alone."""

    def assert_ways(self, roads, given, doors):
        self.assertIsInstance(given, dict)
        self.assertEqual(sorted(given), sorted(doors))
        for door, road in given.items():
            self.assertIsInstance(road, list)
            self.assertEqual((road[0], road[-1] in roads.gates()), (door, True))
            for step in zip(road, road[1:]):
                self.assertIn(step, roads.steps())
        places = [place for road in given.values() for place in road]
        self.assertEqual(len(places), len(set(places)))

    def assert_cuts(self, roads, places, lot):
        self.assertEqual(places, sorted(set(places)))
        self.assertTrue(set(places) <= set(roads.places()))
        for door in lot:
            for road in all_roads(roads, door):
                self.assertTrue(set(road) & set(places), (road, places))


class Point_4_1(unittest.TestCase, Judging):
    def test_no_steps_no_doors_and_no_gates(self):
        roads = Roads(["a"], [], [], [])
        self.assertEqual([roads.places(), roads.steps(), roads.doors(), roads.gates()], [["a"], [], [], []])

    def test_numbers_of_places(self):
        self.raises(BadPlaces(-1), Roads, [], [("a", "a")], [], [])
        self.assertEqual(len(Roads(NAMES[:24], [], NAMES[:24], NAMES[:24]).doors()), 24)
        self.raises(BadPlaces(-1), Roads, NAMES[:25], [], [], [])
        self.raises(BadPlaces(-1), Roads, [""] * 25, [("a", "a")], ["a", "a"], ["x"])
        self.raises(BadPlaces(23), Roads, NAMES[:23] + ["a"], [], [], [])

    def test_wrong_places(self):
        for place in ("", "abcdefghi", "A", "a b", "a1", "\u00e4", "a\n"):
            self.raises(BadPlaces(1), Roads, ["a", place, "a"], [("a", "a")], ["x"], ["x"])
        self.raises(BadPlaces(2), Roads, ["a", "b", "a", ""], [("a", "a")], ["x"], ["x"])

    def test_wrong_steps(self):
        good = ("a", "b")
        for step in (("a", "c"), ("c", "a"), ("c", "d"), ("a", "a"), ("", "b"), ("a", "b"), ("c", "c")):
            self.raises(BadSteps(1), Roads, ["a", "b"], [good, step, ("a", "a")], ["x"], ["x"])
        self.raises(BadSteps(0), Roads, ["a", "b"], [("b", "b"), good, good], ["x"], ["x"])
        self.assertEqual(Roads(["a", "b"], [("b", "a"), good], [], []).steps(), [("a", "b"), ("b", "a")])

    def test_wrong_doors(self):
        self.raises(BadDoors(0), Roads, ["a", "b"], [], ["c", "a", "a"], ["x"])
        self.raises(BadDoors(2), Roads, ["a", "b"], [], ["b", "a", "b", "x"], ["x"])
        self.raises(BadDoors(1), Roads, ["a", "b"], [], ["a", ""], ["x"])

    def test_wrong_gates(self):
        self.raises(BadGates(0), Roads, ["a", "b"], [], ["a"], ["c", "a", "a"])
        self.raises(BadGates(2), Roads, ["a", "b"], [], ["a", "b"], ["b", "a", "b", "x"])

    def test_a_door_may_be_a_gate(self):
        roads = Roads(["a", "b"], [("a", "b")], ["b", "a"], ["b", "a"])
        self.assertEqual((roads.doors(), roads.gates()), (["a", "b"], ["a", "b"]))

    def test_all_steps_between_24_places(self):
        steps = [(one, other) for one in NAMES[:24] for other in NAMES[:24] if one != other]
        self.assertEqual(Roads(NAMES[:24], steps[::-1], [], []).steps(), steps)


class Point_4_2(unittest.TestCase):
    def test_all_lists_are_sorted(self):
        roads = Roads(["c", "a", "b"], [("c", "a"), ("a", "c"), ("a", "b")], ["c", "b"], ["b", "a"])
        self.assertEqual(roads.places(), ["a", "b", "c"])
        self.assertEqual(roads.steps(), [("a", "b"), ("a", "c"), ("c", "a")])
        self.assertEqual((roads.doors(), roads.gates()), (["b", "c"], ["a", "b"]))

    def test_equal_roads(self):
        steps = [("a", "b"), ("b", "c")]
        roads = Roads(["a", "b", "c"], steps, ["a", "b"], ["b", "c"])
        same = Roads(["c", "a", "b"], steps[::-1], ["b", "a"], ["c", "b"])
        self.assertTrue(roads == same)
        self.assertFalse(roads != same)
        for other in (Roads(["a", "b", "c", "d"], steps, ["a", "b"], ["b", "c"]),
                      Roads(["a", "b", "c"], steps[:1], ["a", "b"], ["b", "c"]),
                      Roads(["a", "b", "c"], [("b", "a"), ("b", "c")], ["a", "b"], ["b", "c"]),
                      Roads(["a", "b", "c"], steps, ["a"], ["b", "c"]),
                      Roads(["a", "b", "c"], steps, ["a", "b"], ["c"])):
            self.assertFalse(roads == other)
            self.assertTrue(roads != other)

    def test_methods_stand_in_the_class_itself(self):
        for name in ("places", "steps", "doors", "gates", "__eq__"):
            self.assertIn(name, vars(Roads))


class Point_4_3(unittest.TestCase):
    def test_those_lots_are_free_that_have_unlike_roads(self):
        for roads in some_roads():
            family = roads_family(roads)
            self.assertIsInstance(family, Family)
            self.assertEqual(family.things(), roads.doors())
            for lot in lots_of(roads.doors()):
                self.assertIs(family.is_free(lot), can_go(roads, lot))

    def test_a_door_that_is_a_gate_is_free_alone(self):
        roads = Roads(["a", "b"], [], ["a", "b"], ["b"])
        self.assertEqual((roads_family(roads).stuck(), roads_family(roads).sure()), (["a"], ["b"]))

    def test_a_road_may_lead_through_doors_and_gates(self):
        roads = Roads(["a", "b", "c"], [("a", "b"), ("b", "c")], ["a", "b"], ["b", "c"])
        self.assertTrue(roads_family(roads).is_free(["b"]) and roads_family(roads).is_free(["a"]))
        self.assertFalse(roads_family(roads).is_free(["a", "b"]))
        ended = Roads(["a", "b", "c"], [("a", "b"), ("b", "c")], ["a", "b"], ["c"])
        self.assertEqual(bases(roads_family(ended)), [["a"], ["b"]])

    def test_steps_do_not_lead_back(self):
        self.assertEqual(roads_family(Roads(["a", "b"], [("b", "a")], ["a"], ["b"])).stuck(), ["a"])

    def test_24_places(self):
        family = roads_family(Roads(NAMES[:24], list(zip(NAMES, NAMES[1:24])), NAMES[:24], ["l", "x"]))
        self.assertEqual((family.rank(NAMES[:24]), family.span(["a"]), family.stuck()), (2, NAMES[:12], []))
        self.assertEqual(family.base(), ["a", "m"])


class Point_4_4(unittest.TestCase, Judging):
    def test_document_example(self):
        self.assertEqual(ways(crossing(), ["a"]), {"a": ["a", "c", "d"]})
        self.assertIn(cut_places(crossing(), ["a", "b"]), (["c"], ["d"]))
        self.assertFalse(roads_family(crossing()).is_free(["a", "d"]))

    def test_the_empty_lot_is_free(self):
        self.assertEqual((ways(crossing(), []), cut_places(crossing(), [])), ({}, None))

    def test_a_door_without_roads_is_cut_by_no_place(self):
        roads = Roads(["a", "b"], [("b", "a")], ["a"], ["b"])
        self.assertEqual((ways(roads, ["a"]), cut_places(roads, ["a"])), (None, []))

    def test_each_lot_has_ways_or_is_cut(self):
        for roads in some_roads():
            for lot in lots_of(roads.doors()):
                given, places = ways(roads, lot[::-1]), cut_places(roads, lot[::-1])
                if can_go(roads, lot):
                    self.assert_ways(roads, given, lot)
                    self.assertIsNone(places)
                else:
                    self.assertIsNone(given)
                    self.assert_cuts(roads, places, lot)
                    self.assertLess(len(places), len(lot))

    def test_roads_that_must_turn_aside(self):
        roads = Roads(NAMES[:6], [("a", "c"), ("b", "c"), ("c", "e"), ("a", "d"), ("d", "f")], ["a", "b"], ["e", "f"])
        self.assertEqual(ways(roads, ["b", "a"]), {"a": ["a", "d", "f"], "b": ["b", "c", "e"]})
        self.assertEqual(ways(ladder(12), ["a", "m"]), {"a": NAMES[:12], "m": NAMES[12:24]})

    def test_wrong_lots(self):
        for call in (ways, cut_places, ways_most):
            self.raises(BadLot(0), call, crossing(), ["c", "a"])
            self.raises(BadLot(1), call, crossing(), ["a", "a", "x"])
            self.raises(BadLot(2), call, crossing(), ["d", "a", ""])


class Point_4_5(unittest.TestCase, Judging):
    def test_both_show_one_another(self):
        for roads in some_roads():
            searched = searched_roads(roads)
            for lot in lots_of(roads.doors()):
                told = ways_most(roads, lot[::-1])
                self.assertIsInstance(told, tuple)
                given, places = told
                self.assertTrue(set(given) <= set(lot))
                self.assert_ways(roads, given, list(given))
                self.assert_cuts(roads, places, lot)
                self.assertEqual((len(given), len(places)), (searched.rank(lot),) * 2)

    def test_24_places(self):
        steps = [(one, other) for one in NAMES[:10] for other in ("k", "l", "m")]
        steps += [(one, other) for one in ("k", "l", "m") for other in NAMES[13:24]]
        roads = Roads(NAMES[:24], steps, NAMES[:10] + ["x"], NAMES[13:24])
        given, places = ways_most(roads, roads.doors())
        self.assert_ways(roads, given, list(given))
        self.assertEqual((len(given), places), (4, ["k", "l", "m", "x"]))


class Point_4_6(unittest.TestCase):
    def test_people_and_jobs(self):
        turned = turned_hires(crossing())
        jobs = {"a": ["a"], "b": ["b"], "c": ["a", "b", "c"], "d": ["c"]}
        self.assertTrue(turned == Hires(["a", "b", "c", "d"], jobs))
        gates = Roads(["a", "b"], [("a", "b"), ("b", "a")], [], ["a", "b"])
        self.assertTrue(turned_hires(gates) == Hires(["a", "b"], {"a": [], "b": []}))

    def test_doors_mean_nothing(self):
        for roads in some_roads():
            bare = Roads(roads.places(), roads.steps(), [], roads.gates())
            self.assertTrue(turned_hires(bare) == turned_hires(roads))
            self.assertIsInstance(turned_hires(roads), Hires)

    def test_the_family_is_the_turned_one_if_all_places_are_doors(self):
        for roads in some_roads():
            wide = Roads(roads.places(), roads.steps(), roads.places(), roads.gates())
            family = roads_family(wide)
            turned = hires_family(turned_hires(roads))
            most = family.rank(wide.places())
            for lot in lots_of(wide.places()):
                rest = [place for place in wide.places() if place not in lot]
                self.assertIs(turned.is_free(lot), family.rank(rest) == most)

    def test_small_roads_by_plain_search(self):
        for roads in some_roads()[:6]:
            wide = Roads(roads.places(), roads.steps(), roads.places(), roads.gates())
            rests = [[place for place in wide.places() if place not in base] for base in searched_roads(wide).bases()]
            self.assertEqual(bases(hires_family(turned_hires(roads))), sorted(rests))


if __name__ == "__main__":
    unittest.main()
