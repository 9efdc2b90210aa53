"""Points 8.1 to 8.5: families that are turned, cut down, drawn in, joined, cut short and named."""

import unittest
from random import Random

from bothfree.errors import BadLot, BadNames, BadNumber, BadThings, SameThing, TooMany
from bothfree.families import Family, alike, bases, free_lots, rings
from bothfree.hires import hires_family
from bothfree.roads import Roads, roads_family, turned_hires
from bothfree.rows import Rows, rows_family, turned_rows
from bothfree.turns import (cut_short, drawn_in, free_on, inside, joined, named, ring_rows, turned, web_rows,
                            without)
from bothfree.webs import Web, is_cut, ties_family
from tests.helpers import (NAMES, ODD_VALUES, Telling, even, lots_of, nested, some_roads, some_rows, some_webs,
                           triangle_web)
from tests.makings import rest_of, some_families


def ring():
    """Return the family of the document's example: three ties of a ring."""
    return ties_family(Web(["a", "b", "c"], {"x": ("a", "b"), "y": ("b", "c"), "z": ("a", "c")}))


class Point_8_1(unittest.TestCase):
    def test_document_example(self):
        self.assertIsInstance(turned(ring()), Family)
        self.assertEqual(bases(turned(ring())), [["x"], ["y"], ["z"]])

    def test_free_lots_and_ranks_by_the_rest(self):
        for family, searched in some_families():
            made = turned(family)
            self.assertEqual(made.things(), family.things())
            full = searched.rank(searched.things)
            for lot in lots_of(searched.things):
                rest = searched.rank(rest_of(searched.things, lot))
                self.assertIs(made.is_free(lot[::-1]), rest == full)
                self.assertEqual(made.rank(lot), len(lot) + rest - full)

    def test_24_things_and_none(self):
        made = turned(even(24, 10))
        self.assertEqual((made.base(), made.rank(NAMES[:24]), made.rank(NAMES[:9])), (NAMES[:14], 14, 9))
        self.assertEqual((turned(even(24, 0)).sure(), turned(even(24, 24)).stuck()), (NAMES[:24], NAMES[:24]))
        self.assertEqual(bases(turned(free_on([]))), [[]])

    def test_rings_are_the_cuts_of_a_web(self):
        # Point 2.5.
        for web in some_webs():
            told = [lot for lot in lots_of(web.ties()) if is_cut(web, lot)]
            self.assertEqual(rings(turned(ties_family(web))), told)


    def test_worlds_of_the_turned_family(self):
        # Points 4.6 and 5.5.
        for roads in some_roads():
            wide = Roads(roads.places(), roads.steps(), roads.places(), roads.gates())
            self.assertIsNone(alike(turned(roads_family(wide)), hires_family(turned_hires(roads))))
        for rows in some_rows():
            self.assertIsNone(alike(turned(rows_family(rows)), rows_family(turned_rows(rows))))


class Point_8_2(unittest.TestCase, Telling):
    def test_document_example(self):
        self.assertEqual(rings(drawn_in(turned(ring()), [])), [["x", "y"], ["x", "z"], ["y", "z"]])
        self.assertEqual((rings(drawn_in(ring(), ["x"])), without(ring(), ["x"]).sure()), ([["y", "z"]], ["y", "z"]))

    def test_lots_inside_and_without_and_drawn_in_by_plain_search(self):
        for family, searched in some_families():
            for lot in lots_of(searched.things)[::5]:
                rest = rest_of(searched.things, lot)
                told = [inside(family, lot[::-1]), without(family, rest[::-1]), drawn_in(family, rest[::-1])]
                self.assertEqual([made.things() for made in told], [lot] * 3)
                for part in lots_of(lot):
                    self.assertEqual([told[0].rank(part), told[1].rank(part[::-1])], [searched.rank(part)] * 2)
                    self.assertEqual(told[2].rank(part), searched.rank(part + rest) - searched.rank(rest))

    def test_turned_without_a_lot_is_turned_and_drawn_in(self):
        for family, searched in some_families():
            for lot in lots_of(searched.things)[1::4]:
                self.assertIsNone(alike(turned(without(family, lot)), drawn_in(turned(family), lot)))
                self.assertIsNone(alike(turned(drawn_in(family, lot)), without(turned(family), lot)))

    def test_the_empty_lot_and_the_lot_of_all_things(self):
        for family, searched in some_families():
            everything = searched.things
            for made in (inside(family, everything), without(family, []), drawn_in(family, [])):
                self.assertIsNone(alike(made, family))
            for made in (inside(family, []), without(family, everything), drawn_in(family, everything)):
                self.assertEqual((made.things(), bases(made)), ([], [[]]))

    def test_what_was_passed_is_not_kept(self):
        for make in (inside, without, drawn_in):
            lot = ["x"]
            made = make(ring(), lot)
            lot.append("y")
            self.assertIsNone(alike(made, make(ring(), ["x"])))

    def test_wrong_lots(self):
        for make in (inside, without, drawn_in):
            self.raises(BadLot(1), make, ring(), ["x", "x", "q"])
            self.raises(BadLot(2), make, ring(), ["x", "y", "q"])
            self.raises(BadLot(0), make, ring(), [""])

    def test_24_things(self):
        for make, rank in ((without, 10), (drawn_in, 5)):
            made = make(even(24, 10), NAMES[:5])
            self.assertEqual((made.things(), made.rank(NAMES[5:24]), made.base()), (NAMES[5:24], rank, NAMES[5:5 + rank]))
        self.assertEqual(inside(even(24, 10), NAMES[:12]).base(), NAMES[:10])
        self.assertEqual(drawn_in(even(24, 10), NAMES[:10]).stuck(), NAMES[10:24])


class Point_8_3(unittest.TestCase, Telling):
    def test_joined_lots_are_free_on_both_sides(self):
        chance = Random(83)
        known = [pair for pair in some_families() if len(pair[0]) <= 4]
        for one, searched in known:
            other, other_searched = chance.choice(known)
            names = dict(zip(other.things(), chance.sample(rest_of(NAMES, one.things()), len(other))))
            made = joined(one, named(other, names))
            self.assertEqual(made.things(), sorted([*one.things(), *names.values()]))
            for lot in lots_of(made.things()):
                here = [thing for thing in lot if thing in one]
                there = [thing for thing in names if names[thing] in lot]
                self.assertEqual(made.rank(lot[::-1]), searched.rank(here) + other_searched.rank(there))

    def test_joined_errors_in_their_order(self):
        self.assertEqual(len(joined(free_on(NAMES[:12]), free_on(NAMES[12:24]))), 24)
        self.raises(TooMany(24), joined, free_on(NAMES[:12]), free_on(NAMES[12:25]))
        self.raises(SameThing("b"), joined, free_on(["a", "c", "b"]), free_on(["d", "c", "b"]))
        self.raises(SameThing("x"), joined, free_on(NAMES[:24]), free_on(["z", "y", "x"]))
        self.raises(SameThing("x"), joined, ring(), ring())
        self.assertEqual(joined(free_on([]), free_on([])).things(), [])

    def test_cut_short_by_plain_search(self):
        for family, searched in some_families():
            for k in range(len(family) + 2):
                known = [lot for lot in searched.free_lots() if len(lot) <= k]
                self.assertEqual(free_lots(cut_short(family, k)), known)

    def test_cut_short_to_nought_and_to_more_than_the_rank(self):
        self.assertEqual(bases(cut_short(ring(), 0)), [[]])
        for k in (2, 3, 25, 10 ** 30):
            self.assertIsNone(alike(cut_short(ring(), k), ring()))
        self.assertEqual(cut_short(free_on(NAMES[:24]), 7).base(), NAMES[:7])

    def test_cut_short_by_wrong_numbers(self):
        for k in [-1, -10 ** 30, "1", [1], (1,), nested(list), nested(tuple), *ODD_VALUES]:
            self.raises(BadNumber(k), cut_short, ring(), k)

    def test_free_on(self):
        for things in ([], ["b"], ["c", "a", "b"], NAMES[23::-1]):
            made = free_on(things)
            self.assertIsInstance(made, Family)
            self.assertEqual((made.things(), made.sure(), made.is_free(things)), (sorted(things), sorted(things), True))

    def test_free_on_wrong_things(self):
        self.raises(BadThings(-1), free_on, NAMES[:25])
        self.raises(BadThings(-1), free_on, [""] * 25)
        self.raises(BadThings(23), free_on, NAMES[:23] + ["a"])
        for name in ("", "A", "abcdefghi", "a1", "a b", "a\n", "\u00e4"):
            self.raises(BadThings(1), free_on, ["a", name, "a"])

    def test_what_was_passed_is_not_kept(self):
        things = ["b", "a"]
        made = free_on(things)
        things.append("c")
        self.assertEqual(made.things(), ["a", "b"])


class Point_8_4(unittest.TestCase, Telling):
    def test_names_change_and_free_lots_do_not(self):
        chance = Random(84)
        for family, searched in some_families():
            names = dict(zip(family.things(), chance.sample(NAMES, len(family))))
            made = named(family, names)
            self.assertEqual(made.things(), sorted(names.values()))
            for lot in lots_of(family.things()):
                self.assertEqual(made.rank([names[thing] for thing in lot]), searched.rank(lot))

    def test_names_change_places(self):
        family = ties_family(triangle_web())
        made = named(family, {"l": "x", "x": "y", "y": "z", "z": "l"})
        self.assertEqual((made.stuck(), rings(made)), (["x"], [["x"], ["l", "y", "z"]]))

    def test_24_things(self):
        names = dict(zip(NAMES[:24], NAMES[2:26]))
        self.assertEqual(named(even(24, 9), names).base(), NAMES[2:11])

    def test_errors(self):
        good = {"x": "p", "y": "q", "z": "r"}
        for names, thing in (({}, "x"), ({"x": "p", "y": "q"}, "z"), ({**good, "a": "s"}, "a"), ({**good, "": "s"}, ""),
                             ({**good, "zz": "s"}, "zz"), ({**good, "y": "p"}, "y"), ({**good, "z": "q", "y": "p"}, "y"),
                             ({**good, "x": "r"}, "z"), ({**good, "w": "s", "x": ""}, "w"), ({"y": 1, "x": "p"}, "y")):
            self.raises(BadNames(thing), named, ring(), names)

    def test_names_of_any_kind(self):
        good = {"x": "p", "y": "q", "z": "r"}
        for name in [*ODD_VALUES, 1, ["p"], ("p",), nested(list), nested(tuple), "p q", "p\n", "\u00e4"]:
            self.raises(BadNames("y"), named, ring(), {**good, "y": name, "z": name})

    def test_what_was_passed_is_not_kept(self):
        names = {"x": "p", "y": "q", "z": "r"}
        made = named(ring(), names)
        names["x"] = "s"
        self.assertEqual(made.things(), ["p", "q", "r"])


class Point_8_5(unittest.TestCase):
    def test_web_rows(self):
        rows = web_rows(triangle_web())
        self.assertIsInstance(rows, Rows)
        self.assertEqual((rows.over(), rows.rows()),
                         ("two", {"l": [0, 0, 0], "x": [1, 1, 0], "y": [0, 1, 1], "z": [1, 0, 1]}))

    def test_ring_rows(self):
        # The first base is x, y; outside of it are l, its own ring, and z, in the ring of all three.
        self.assertEqual(ring_rows(triangle_web()).rows(), {"l": [1, 0], "x": [0, 1], "y": [0, 1], "z": [0, 1]})
        self.assertEqual(ring_rows(triangle_web()).over(), "two")

    def test_webs_without_ties_outside_of_the_first_base(self):
        self.assertEqual(ring_rows(Web(["a", "b"], {"x": ("a", "b")})).rows(), {"x": [0]})
        for make in (web_rows, ring_rows):
            self.assertEqual((make(Web(["a"], {})).rows(), make(Web(["a"], {})).width()), ({}, 0))

    def test_families_are_alike(self):
        for web in some_webs():
            family = ties_family(web)
            self.assertIsNone(alike(rows_family(web_rows(web)), family))
            self.assertIsNone(alike(rows_family(ring_rows(web)), turned(family)))

    def test_numbers_stand_for_places_and_for_ties(self):
        for web in some_webs():
            ties = web.ties()
            for tie, row in web_rows(web).rows().items():
                ends = [place for place in web.places() if ties[tie].count(place) == 1]
                self.assertEqual([place for place, entry in zip(web.places(), row) if entry], ends)
            base = ties_family(web).base()
            outer = rest_of(sorted(ties), base)
            for at, tie in enumerate(outer):
                members = [other for other in ties if ring_rows(web).row(other)[at]]
                own = [ring for ring in rings(ties_family(web)) if set(ring) <= {*base, tie}]
                self.assertEqual([sorted(members)], own)

    def test_24_ties(self):
        web = Web(NAMES[:16], {name: (NAMES[at % 16], NAMES[(at * 5 + 1) % 16]) for at, name in enumerate(NAMES[:24])})
        one, other = rows_family(web_rows(web)), rows_family(ring_rows(web))
        family = ties_family(web)
        chance = Random(85)
        for _ in range(60):
            lot = chance.sample(NAMES[:24], chance.randint(0, 24))
            self.assertEqual((one.rank(lot), other.rank(lot)), (family.rank(lot), turned(family).rank(lot)))
        loops = Web(["a"], {name: ("a", "a") for name in NAMES[:24]})
        self.assertEqual(rows_family(ring_rows(loops)).sure(), NAMES[:24])


if __name__ == "__main__":
    unittest.main()
