"""Points 14.1 to 14.6: halls, the deeds that change their worlds, and their histories."""

import unittest
from random import Random

from bothfree.both import both, both_fault
from bothfree.counts import Counts, counts_family, over_full
from bothfree.errors import (BadDeed, BadDoors, BadGates, BadJobs, BadLot, BadNumber, BadPlaces, BadRooms, BadRows, BadSteps,
                             BadThings, BadTies, BadWeights, CrossedRooms, LotError, NoThing, NothingToRedo, NothingToUndo,
                             TooMany, UnlikeThings)
from bothfree.families import Family, alike
from bothfree.game import who
from bothfree.hall import Hall
from bothfree.hires import Hires, hires_family, short
from bothfree.many import fewest, most
from bothfree.one import heaviest_base
from bothfree.roads import Roads, cut_places, roads_family
from bothfree.rows import Rows, rows_family, sum_of
from bothfree.webs import Web, ring_in, ties_family
from tests.helpers import (NAMES, ODD_VALUES, Telling, bakers, crossing, lots_of, nested, rooms, slopes, some_counts, some_hires,
                           some_roads, some_rows, some_webs, told, triangle_web)

# No name, no integer and no list of such.
BAD_NAMES = [*ODD_VALUES, 1, ["a"], ("a",), "a b", "a\n", "\u00e4", nested(list), nested(tuple)]
BAD_INTEGERS = [*ODD_VALUES, "1", [1], (1,), nested(list), nested(tuple)]


def two_rows():
    return Rows({"a": [1, 0, 1], "b": [0, 1, 1]}, over="two")


def worlds():
    return [triangle_web(), bakers(), crossing(), slopes(), two_rows(), rooms()]


WORDS = [{"place": 1, "tie": 3, "untie": 1}, {"jobs": 2, "leave": 1, "close": 1},
         {"place": 1, "step": 2, "unstep": 2, "door": 1, "gate": 1, "undoor": 1, "ungate": 1},
         {"row": 2, "strike": 1, "mix": 3}, {"row": 2, "strike": 1, "mix": 3},
         {"thing": 1, "strike": 1, "room": 2, "unroom": 1}]


def family_of(world):
    makes = {Web: ties_family, Hires: hires_family, Roads: roads_family, Rows: rows_family, Counts: counts_family}
    return makes[world.__class__](world)


def why_of(world, lot):
    asks = {Web: ring_in, Hires: short, Roads: cut_places, Rows: sum_of, Counts: over_full}
    return asks[world.__class__](world, lot)


class Halls(Telling):
    """Does single deeds, and sees to it that errors change nothing."""

    def assert_makes(self, world, deed, expected):
        for do in (lambda hall: hall.do(deed), lambda hall: hall.__iadd__(deed)):
            hall = Hall(world)
            do(hall)
            self.assertEqual(hall.world.__class__, expected.__class__)
            self.assertTrue(hall.world == expected, deed)
            self.assertEqual((len(hall), hall.record()), (1, [deed]))
            hall.undo()
            self.assertTrue(hall.world == world)

    def refuses(self, error, world, deed):
        hall = Hall(world)
        self.raises(error, hall.do, deed)
        self.raises(error, hall.__iadd__, deed)
        self.raises(error, hall.trial, [deed])
        self.assertTrue(hall.world == world)
        self.assertEqual((len(hall), hall.record()), (0, []))


class Point_14_1_Web(unittest.TestCase, Halls):
    def test_places(self):
        web = triangle_web()
        self.assert_makes(web, ("place", "d"), Web(["a", "b", "c", "d"], web.ties()))
        self.assert_makes(Web(["b"], {}), ("place", "a"), Web(["a", "b"], {}))
        self.assert_makes(Web(NAMES[:15], {}), ("place", "z"), Web([*NAMES[:15], "z"], {}))
        for place in [*BAD_NAMES, "a", "c"]:
            self.refuses(BadPlaces(3), web, ("place", place))
            self.refuses(BadPlaces(-1), Web(NAMES[:16], {}), ("place", place))
        self.refuses(BadPlaces(-1), Web(NAMES[:16], {}), ("place", "z"))

    def test_ties(self):
        web = triangle_web()
        self.assert_makes(web, ("tie", "p", "c", "a"), Web(web.places(), {**web.ties(), "p": ("a", "c")}))
        self.assert_makes(web, ("tie", "x", "b", "b"), Web(web.places(), {**web.ties(), "x": ("b", "b")}))
        self.assert_makes(Web(["a"], {}), ("tie", "x", "a", "a"), Web(["a"], {"x": ("a", "a")}))
        for tie in BAD_NAMES:
            self.refuses(BadTies(tie), web, ("tie", tie, "a", "b"))
        for place in [*BAD_NAMES, "d"]:
            self.refuses(BadTies("x"), web, ("tie", "x", "a", place))
            self.refuses(BadTies("new"), web, ("tie", "new", place, "b"))

    def test_24_ties(self):
        full = Web(["a", "b"], {name: ("a", "b") for name in NAMES[:24]})
        self.refuses(TooMany(24), full, ("tie", "z", "a", "b"))
        self.refuses(BadTies("z"), full, ("tie", "z", "a", "q"))
        self.refuses(BadTies("Z"), full, ("tie", "Z", "a", "b"))
        self.assert_makes(full, ("tie", "c", "b", "b"), Web(["a", "b"], {**full.ties(), "c": ("b", "b")}))

    def test_untie(self):
        web = triangle_web()
        ties = web.ties()
        del ties["l"]
        self.assert_makes(web, ("untie", "l"), Web(web.places(), ties))
        for tie in [*BAD_NAMES, "a", "p"]:
            self.refuses(NoThing(tie), web, ("untie", tie))
        self.refuses(NoThing("x"), Web(["a"], {}), ("untie", "x"))


class Point_14_1_Hires(unittest.TestCase, Halls):
    def test_jobs(self):
        hires = bakers()
        jobs = {person: hires.jobs_of(person) for person in hires.people()}
        self.assert_makes(hires, ("jobs", "dan", ["cook", "bake"]), Hires([*jobs, "dan"], {**jobs, "dan": ["bake", "cook"]}))
        self.assert_makes(hires, ("jobs", "cat", []), Hires(list(jobs), {**jobs, "cat": []}))
        self.assert_makes(Hires([], {}), ("jobs", "a", ["a"]), Hires(["a"], {"a": ["a"]}))
        self.assert_makes(Hires([], {}), ("jobs", "a", NAMES[:24]), Hires(["a"], {"a": NAMES[:24]}))
        for person in BAD_NAMES:
            self.refuses(BadJobs(person), hires, ("jobs", person, []))
        bad = [value for value in BAD_NAMES if not isinstance(value, list)]
        for value in [*bad, "bake", ["a", "a"], [1], [["a"]], ["a", None], ["A"], NAMES[:25], ["a"] * 25, [nested(list)]]:
            self.refuses(BadJobs("ann"), hires, ("jobs", "ann", value))
            self.refuses(BadJobs("new"), hires, ("jobs", "new", value))

    def test_24_people(self):
        full = Hires(NAMES[:24], {name: ["a"] for name in NAMES[:24]})
        self.refuses(BadThings(-1), full, ("jobs", "z", ["a"]))
        self.refuses(BadJobs("z"), full, ("jobs", "z", ["a", "a"]))
        self.assert_makes(full, ("jobs", "b", []), Hires(NAMES[:24], {name: ["a"] * (name != "b") for name in NAMES[:24]}))

    def test_leave_and_close(self):
        hires = bakers()
        self.assert_makes(hires, ("leave", "bob"), Hires(["ann", "cat"], {"ann": ["bake"], "cat": ["bake", "cook"]}))
        self.assert_makes(hires, ("close", "bake"), Hires(hires.people(), {"ann": [], "bob": [], "cat": ["cook"]}))
        for name in [*BAD_NAMES, "bake", "zoe"]:
            self.refuses(NoThing(name), hires, ("leave", name))
        for name in [*BAD_NAMES, "ann", "zoe"]:
            self.refuses(NoThing(name), hires, ("close", name))
        self.refuses(NoThing("a"), Hires([], {}), ("leave", "a"))
        self.refuses(NoThing("a"), Hires([], {}), ("close", "a"))


class Point_14_1_Roads(unittest.TestCase, Halls):
    def test_places(self):
        roads = crossing()
        self.assert_makes(roads, ("place", "e"), Roads([*"abcde"], roads.steps(), roads.doors(), roads.gates()))
        self.assert_makes(Roads(NAMES[:23], [], [], []), ("place", "z"), Roads([*NAMES[:23], "z"], [], [], []))
        for place in [*BAD_NAMES, "a", "d"]:
            self.refuses(BadPlaces(4), roads, ("place", place))
        self.refuses(BadPlaces(-1), Roads(NAMES[:24], [], [], []), ("place", "z"))
        self.refuses(BadPlaces(-1), Roads(NAMES[:24], [], [], []), ("place", ["z"]))

    def test_steps(self):
        roads = crossing()
        self.assert_makes(roads, ("step", "c", "a"), Roads([*"abcd"], [*roads.steps(), ("c", "a")], roads.doors(), roads.gates()))
        for place in [*BAD_NAMES, "e"]:
            self.refuses(BadSteps(3), roads, ("step", place, "a"))
            self.refuses(BadSteps(3), roads, ("step", "a", place))
        for step in (("a", "a"), ("a", "c"), ("c", "d")):
            self.refuses(BadSteps(3), roads, ("step", *step))
        self.refuses(BadSteps(0), Roads(["a"], [], [], []), ("step", "a", "a"))

    def test_unstep(self):
        roads = crossing()
        self.assert_makes(roads, ("unstep", "b", "c"), Roads([*"abcd"], [("a", "c"), ("c", "d")], roads.doors(), roads.gates()))
        for step in (("c", "b"), ("a", "a"), ("e", "f"), ("a", "d")):
            self.refuses(BadSteps(-1), roads, ("unstep", *step))
        for value in BAD_NAMES:
            self.refuses(BadSteps(-1), roads, ("unstep", "a", value))
            self.refuses(BadSteps(-1), roads, ("unstep", value, "c"))

    def test_doors_and_gates(self):
        roads = crossing()
        parts = roads.places(), roads.steps()
        self.assert_makes(roads, ("door", "c"), Roads(*parts, [*"abcd"], ["d"]))
        self.assert_makes(roads, ("gate", "a"), Roads(*parts, ["a", "b", "d"], ["a", "d"]))
        self.assert_makes(roads, ("undoor", "d"), Roads(*parts, ["a", "b"], ["d"]))
        self.assert_makes(roads, ("ungate", "d"), Roads(*parts, ["a", "b", "d"], []))
        for place in [*BAD_NAMES, "e", "a"]:
            self.refuses(BadDoors(3), roads, ("door", place))
        for place in [*BAD_NAMES, "e", "d"]:
            self.refuses(BadGates(1), roads, ("gate", place))
        for place in [*BAD_NAMES, "e", "c"]:
            self.refuses(BadDoors(-1), roads, ("undoor", place))
            self.refuses(BadGates(-1), roads, ("ungate", place))
        self.refuses(BadGates(-1), roads, ("ungate", "a"))


class Point_14_1_Rows(unittest.TestCase, Halls):
    def test_rows(self):
        rows = slopes()
        self.assert_makes(rows, ("row", "d", [-5, 10 ** 40]), Rows({**rows.rows(), "d": [-5, 10 ** 40]}, over="whole"))
        self.assert_makes(rows, ("row", "a", [0, 0]), Rows({**rows.rows(), "a": [0, 0]}, over="whole"))
        self.assert_makes(two_rows(), ("row", "c", [1, 1, 0]), Rows({**two_rows().rows(), "c": [1, 1, 0]}, over="two"))
        for name in BAD_NAMES:
            self.refuses(BadRows(name), rows, ("row", name, [1, 1]))
        bad = [value for value in BAD_INTEGERS if not isinstance(value, list)]
        for row in [*bad, [], [1], [1, 2, 3], (1, 2), [1, True], [None, 1], ["1", 1], [[1], 1], {0: 1, 1: 2}, [1, nested(list)]]:
            self.refuses(BadRows("a"), rows, ("row", "a", row))
            self.refuses(BadRows("A"), rows, ("row", "A", row))
            self.refuses(BadRows("aa"), rows, ("row", "aa", row))
        for row in ([1, 2, 1], [0, -1, 0], [0, 1], [True, 0, 0]):
            self.refuses(BadRows("c"), two_rows(), ("row", "c", row))

    def test_the_width_may_change_where_there_are_no_other_things(self):
        for over in ("two", "whole"):
            self.assert_makes(Rows({}, over=over), ("row", "a", [1] * 24), Rows({"a": [1] * 24}, over=over))
            self.assert_makes(Rows({"a": [1]}, over=over), ("row", "a", [0, 1]), Rows({"a": [0, 1]}, over=over))
            self.assert_makes(Rows({"a": [1]}, over=over), ("row", "a", []), Rows({"a": []}, over=over))
            self.refuses(BadRows("a"), Rows({}, over=over), ("row", "a", [1] * 25))
            self.refuses(BadRows("a"), Rows({"b": [1]}, over=over), ("row", "a", [0, 1]))

    def test_24_things(self):
        full = Rows({name: [1] for name in NAMES[:24]}, over="two")
        self.refuses(TooMany(24), full, ("row", "z", [0]))
        self.refuses(BadRows("z"), full, ("row", "z", [2]))
        self.refuses(BadRows("z"), full, ("row", "z", []))
        self.assert_makes(full, ("row", "x", [0]), Rows({**full.rows(), "x": [0]}, over="two"))

    def test_strike(self):
        self.assert_makes(slopes(), ("strike", "b"), Rows({"a": [1, 0], "c": [2, 4]}, over="whole"))
        self.assert_makes(Rows({"a": [1]}, over="two"), ("strike", "a"), Rows({}, over="two"))
        for name in [*BAD_NAMES, "d"]:
            self.refuses(NoThing(name), slopes(), ("strike", name))

    def test_mix(self):
        self.assert_makes(slopes(), ("mix", 0, 1, -3), Rows({"a": [1, 0], "b": [-3, 1], "c": [-10, 4]}, over="whole"))
        self.assert_makes(slopes(), ("mix", 1, 0, 10 ** 30), Rows({"a": [1, 10 ** 30], "b": [0, 1], "c": [2, 4 + 2 * 10 ** 30]},
                                                                 over="whole"))
        self.assert_makes(slopes(), ("mix", 1, 0, 0), slopes())
        for factor, row in ((1, [1, 0, 0]), (-3, [1, 0, 0]), (2, [1, 0, 1]), (10 ** 30, [1, 0, 1])):
            self.assert_makes(two_rows(), ("mix", 2, 0, factor), Rows({"a": row, "b": [0, 1, 1]}, over="two"))

    def test_a_mix_changes_nothing_in_the_family(self):
        chance = Random(141)
        for rows in some_rows():
            if rows.width() > 1:
                hall = Hall(rows)
                for _ in range(4):
                    hall.do(("mix", *chance.sample(range(rows.width()), 2), chance.randint(-3, 3)))
                    self.assertIsNone(alike(hall.family(), rows_family(rows)))

    def test_wrong_mixes(self):
        for i in [*BAD_INTEGERS, 2, -1, 10 ** 30]:
            self.refuses(BadNumber(i), slopes(), ("mix", i, None, None))
        for j in [*BAD_INTEGERS, 2, -1, 0]:
            self.refuses(BadNumber(j), slopes(), ("mix", 0, j, None))
        for factor in BAD_INTEGERS:
            self.refuses(BadNumber(factor), slopes(), ("mix", 0, 1, factor))
        self.refuses(BadNumber(0), Rows({}, over="two"), ("mix", 0, 1, 1))
        self.refuses(BadNumber(0), Rows({"a": []}, over="two"), ("mix", 0, 1, 1))
        self.refuses(BadNumber(1), Rows({"a": [1]}, over="whole"), ("mix", 0, 1, 1))


class Point_14_1_Counts(unittest.TestCase, Halls):
    def test_things(self):
        counts = rooms()
        self.assert_makes(counts, ("thing", "d"), Counts([*"abcd"], counts.rooms()))
        self.assert_makes(Counts([], []), ("thing", "a"), Counts(["a"], []))
        for name in [*BAD_NAMES, "a", "c"]:
            self.refuses(BadThings(3), counts, ("thing", name))
            self.refuses(BadThings(24), Counts(NAMES[:24], []), ("thing", name))
        self.refuses(BadThings(24), Counts(NAMES[:24], []), ("thing", "z"))

    def test_strike(self):
        self.assert_makes(rooms(), ("strike", "b"), Counts(["a", "c"], [(["a"], 1), (["a", "c"], 2)]))
        self.assert_makes(Counts(["a"], [(["a"], 3), ([], 0)]), ("strike", "a"), Counts([], [([], 3), ([], 0)]))
        for name in [*BAD_NAMES, "d"]:
            self.refuses(NoThing(name), rooms(), ("strike", name))

    def test_rooms(self):
        told_rooms = rooms().rooms()
        self.assert_makes(rooms(), ("room", ["c"], 0), Counts([*"abc"], [*told_rooms, (["c"], 0)]))
        self.assert_makes(rooms(), ("room", [], 10 ** 40), Counts([*"abc"], [*told_rooms, ([], 10 ** 40)]))
        self.assert_makes(rooms(), ("room", ["b", "a"], 1), Counts([*"abc"], [*told_rooms, (["a", "b"], 1)]))
        bad = [value for value in BAD_NAMES if value != ["a"]]
        for lot in [*bad, "abc", ("a",), ["a", "a"], ["d"], [1], [None], [["a"]], {"a": 1}, [nested(list)]]:
            self.refuses(BadRooms(2), rooms(), ("room", lot, 1))
        for number in [*BAD_INTEGERS, -1, -10 ** 30]:
            self.refuses(BadRooms(2), rooms(), ("room", ["a"], number))
            self.refuses(BadRooms(2), rooms(), ("room", ["b", "c"], number))

    def test_crossed_rooms(self):
        self.refuses(CrossedRooms(0, 2), rooms(), ("room", ["c", "b"], 1))
        counts = Counts([*"abcd"], [(["a"], 1), (["b", "c"], 1), (["a", "b", "c"], 1)])
        self.refuses(CrossedRooms(1, 3), counts, ("room", ["c", "d"], 1))
        self.refuses(CrossedRooms(1, 3), counts, ("room", ["a", "b", "d"], 1))
        self.refuses(CrossedRooms(2, 3), counts, ("room", ["a", "d"], 1))

    def test_60_rooms(self):
        full = Counts(["a", "b"], [(["a"], at) for at in range(60)])
        self.refuses(BadRooms(60), full, ("room", ["a"], 1))
        self.refuses(BadRooms(60), full, ("room", ["q"], 1))
        self.assert_makes(full, ("unroom", 59), Counts(["a", "b"], full.rooms()[:59]))
        self.assert_makes(Counts(["a"], [(["a"], 1)] * 59), ("room", ["a"], 2), Counts(["a"], [(["a"], 1)] * 59 + [(["a"], 2)]))

    def test_unroom(self):
        told_rooms = rooms().rooms()
        self.assert_makes(rooms(), ("unroom", 0), Counts([*"abc"], told_rooms[1:]))
        self.assert_makes(rooms(), ("unroom", 1), Counts([*"abc"], told_rooms[:1]))
        for index in [*BAD_INTEGERS, 2, -1, -2, 10 ** 30]:
            self.refuses(BadNumber(index), rooms(), ("unroom", index))
        self.refuses(BadNumber(0), Counts(["a"], []), ("unroom", 0))


class Point_14_2(unittest.TestCase, Halls):
    def test_values_that_are_no_deeds(self):
        for world in worlds():
            for value in [*ODD_VALUES, 1, "place", ["place", "z"], (), ("",), (None, 1), (1,), (["place"], "z"), (("place",), "z"),
                          ("nothing", "z"), ("Place", "z"), nested(list), nested(tuple), (nested(tuple), "z"), {"place": "z"}]:
                self.refuses(BadDeed(), world, value)

    def test_words_of_other_worlds_and_wrong_numbers_of_arguments(self):
        everything = sorted({word for words in WORDS for word in words})
        for world, words in zip(worlds(), WORDS):
            for word in everything:
                for many in range(6):
                    if words.get(word) != many:
                        self.refuses(BadDeed(), world, (word, *["z"] * many))
        for world in worlds():
            for word in ("undo", "redo"):
                hall = Hall(world)
                self.raises(BadDeed(), hall.do, (word,))

    def test_do_tells_nothing_and_the_hall_stays_the_same_object(self):
        hall = same = Hall(triangle_web())
        self.assertIsNone(hall.do(("place", "d")))
        hall += ("place", "e")
        self.assertIs(hall, same)
        self.assertEqual((hall.world.places(), len(same)), ([*"abcde"], 2))

    def test_the_world_itself_does_not_change(self):
        web = triangle_web()
        hall = Hall(web)
        hall.do(("untie", "x"))
        self.assertTrue(web == triangle_web())
        self.assertFalse(hall.world == web)


def a_deed(world, chance):
    """Return any deed, right or wrong, that a world may take."""
    words = WORDS[[Web, Hires, Roads, Rows, Counts].index(world.__class__) + (world.__class__ is Counts)]
    word = chance.choice(list(words))
    short_names = NAMES[:6]
    choices = {Web: lambda: chance.choice(short_names), Hires: lambda: chance.choice([*short_names, chance.sample(short_names, 2)]),
               Roads: lambda: chance.choice(short_names), Rows: lambda: a_part_of_rows(world, chance),
               Counts: lambda: chance.choice([*short_names, chance.sample(short_names, 2), chance.randint(0, 3)])}
    return (word, *[choices[world.__class__]() for _ in range(words[word])])


def a_part_of_rows(world, chance):
    return chance.choice([*NAMES[:4], *range(max(1, world.width())), [chance.randint(0, 1) for _ in range(world.width())]])


class History:
    """A hall by the words of the document alone: lists of worlds and deeds, and how many deeds stand."""

    def __init__(self, world):
        self.worlds, self.deeds, self.stand = [world], [], 0

    def do(self, deed):
        probe = Hall(self.worlds[self.stand])
        probe.do(deed)
        self.worlds[self.stand + 1:], self.deeds[self.stand:] = [probe.world], [deed]
        self.stand += 1

    def undo(self):
        if not self.stand:
            raise NothingToUndo()
        self.stand -= 1

    def redo(self):
        if self.stand == len(self.deeds):
            raise NothingToRedo()
        self.stand += 1

    def step(self, step):
        if step in (("undo",), ("redo",)):
            getattr(self, step[0])()
        else:
            self.do(step)


def tried(call, *arguments):
    """Return what a call tells, or its error."""
    try:
        return call(*arguments)
    except LotError as error:
        return told(error)


def some_worlds():
    return [world for some in (some_webs, some_hires, some_roads, some_rows, some_counts) for world in some()[2::4]]


class Point_14_3(unittest.TestCase, Halls):
    def assert_like(self, hall, history):
        self.assertTrue(hall.world == history.worlds[history.stand])
        self.assertEqual((len(hall), hall.record()), (history.stand, history.deeds[:history.stand]))
        seen = list(hall.worlds())
        self.assertEqual(len(seen), history.stand + 1)
        self.assertTrue(all(one == other for one, other in zip(seen, history.worlds)))

    def test_histories_replayed_from_the_first_world(self):
        chance = Random(143)
        done = 0
        for world in some_worlds():
            hall, history = Hall(world), History(world)
            for _ in range(40):
                step = chance.choice([("undo",), ("redo",)]) if chance.randint(0, 2) == 0 else a_deed(hall.world, chance)
                if step in (("undo",), ("redo",)):
                    outcome = tried(getattr(hall, step[0]))
                else:
                    outcome = tried(hall.do, step)
                self.assertEqual(outcome, tried(history.step, step))
                done += outcome is None
                self.assert_like(hall, history)
            replayed = Hall(world)
            for deed in hall.record():
                replayed += deed
            self.assertTrue(replayed.world == hall.world)
        self.assertGreater(done, 200)

    def test_undo_and_redo_without_any_left(self):
        hall = Hall(triangle_web())
        self.raises(NothingToUndo(), hall.undo)
        self.raises(NothingToRedo(), hall.redo)
        hall.do(("place", "d"))
        self.raises(NothingToRedo(), hall.redo)
        self.assertIsNone(hall.undo())
        self.raises(NothingToUndo(), hall.undo)
        self.assertIsNone(hall.redo())
        self.raises(NothingToRedo(), hall.redo)
        self.assertEqual((len(hall), hall.world.places()), (1, [*"abcd"]))

    def test_redo_behind_a_new_deed_and_behind_a_refused_one(self):
        hall = Hall(triangle_web())
        for place in "def":
            hall.do(("place", place))
        hall.undo()
        hall.undo()
        self.raises(BadPlaces(4), hall.do, ("place", "d"))
        self.raises(BadDeed(), hall.do, None)
        hall.redo()
        self.assertEqual(hall.record(), [("place", "d"), ("place", "e")])
        hall.undo()
        hall.do(("place", "z"))
        self.raises(NothingToRedo(), hall.redo)
        self.assertEqual(hall.record(), [("place", "d"), ("place", "z")])
        hall.undo()
        hall.undo()
        hall.redo()
        self.assertEqual(hall.record(), [("place", "d")])

    def test_worlds_begun_ahead_of_further_deeds(self):
        hall = Hall(triangle_web())
        hall.do(("place", "d"))
        told_worlds = hall.worlds()
        self.assertTrue(next(told_worlds) == triangle_web())
        hall.undo()
        hall.do(("untie", "x"))
        hall.do(("untie", "y"))
        rest = list(told_worlds)
        self.assertEqual([world.places() for world in rest], [[*"abcd"]])
        self.assertEqual([sorted(world.ties()) for world in hall.worlds()], [[*"lxyz"], [*"lyz"], [*"lz"]])

    def test_worlds_is_a_generator(self):
        told_worlds = Hall(bakers()).worlds()
        self.assertIs(iter(told_worlds), told_worlds)
        self.assertTrue(next(told_worlds) == bakers())
        self.assertEqual(list(told_worlds), [])

    def test_records_have_lists_of_their_own(self):
        passed = ["cook", "bake"]
        hall = Hall(bakers())
        hall.do(("jobs", "dan", passed))
        passed.append("sing")
        self.assertEqual(hall.record(), [("jobs", "dan", ["cook", "bake"])])
        hall.record()[0][2].clear()
        hall.record().clear()
        self.assertEqual(hall.record(), [("jobs", "dan", ["cook", "bake"])])
        hall.undo()
        hall.redo()
        self.assertEqual((hall.world.jobs_of("dan"), hall.record()), (["bake", "cook"], [("jobs", "dan", ["cook", "bake"])]))
        for world, deed in ((slopes(), ("row", "d", [1, 2])), (rooms(), ("room", ["b", "a"], 2))):
            hall = Hall(world)
            hall += deed
            list_passed = [part for part in deed if isinstance(part, list)][0]
            before = list(list_passed)
            list_passed.reverse()
            self.assertEqual([part for part in hall.record()[0] if isinstance(part, list)], [before])

    def test_methods_and_the_property_stand_in_the_class_itself(self):
        for name in ("world", "do", "undo", "redo", "record", "worlds", "family", "things", "rank", "is_free", "is_base", "span",
                     "base", "stuck", "sure", "why", "best", "fewest", "most", "who", "against", "moved", "trial", "twin",
                     "__len__", "__iadd__"):
            self.assertIn(name, vars(Hall))
        self.assertIsInstance(vars(Hall)["world"], property)


class Point_14_4(unittest.TestCase, Halls):
    def assert_views(self, hall, world):
        family = family_of(world)
        self.assertIsInstance(hall.family(), Family)
        self.assertEqual(hall.family().things(), family.things())
        self.assertEqual([hall.things(), hall.base(), hall.stuck(), hall.sure()],
                         [family.things(), family.base(), family.stuck(), family.sure()])
        for lot in lots_of(family.things())[::3] + [["q"], [*family.things(), *family.things()[:1]]]:
            for view, ask in ((hall.rank, family.rank), (hall.is_free, family.is_free), (hall.is_base, family.is_base),
                              (hall.span, family.span)):
                self.assertEqual(tried(view, lot), tried(ask, lot))
            self.assertEqual(tried(hall.why, lot), tried(why_of, world, lot))
        self.assertEqual((hall.fewest(), hall.most()), (fewest(family), most(family)))
        weights = {thing: at % 3 - 1 for at, thing in enumerate(family.things())}
        self.assertEqual(hall.best(weights), heaviest_base(family, weights))
        for mark in [*family.things(), "q"]:
            self.assertEqual(tried(hall.who, mark), tried(who, family, mark))
        self.assertEqual(hall.against(world), both(family, family))

    def test_views_tell_what_the_functions_tell(self):
        chance = Random(144)
        for world in some_worlds():
            hall = Hall(world)
            self.assert_views(hall, world)
            for _ in range(6):
                tried(hall.do, a_deed(hall.world, chance))
            self.assert_views(hall, hall.world)

    def test_why(self):
        hall = Hall(Web(["a", "b"], {"x": ("a", "b")}))
        hall.do(("tie", "y", "b", "a"))
        self.assertIn(hall.why(["x", "y"]), (["x", "y"], ["y", "x"]))
        self.assertEqual(Hall(bakers()).why(["bob", "ann"]), (["ann", "bob"], ["bake"]))
        self.assertIn(Hall(crossing()).why(["a", "b"]), (["c"], ["d"]))
        self.assertEqual(Hall(rooms()).why(["b", "a"]), 0)
        self.assertIn(Hall(slopes()).why(["a", "b", "c"]), ({"a": 2, "b": 4, "c": -1}, {"a": -2, "b": -4, "c": 1}))
        for world in worlds():
            self.assertIsNone(Hall(world).why([]))

    def test_errors_of_the_functions(self):
        hall = Hall(rooms())
        for view in (hall.rank, hall.is_free, hall.is_base, hall.span, hall.why):
            self.raises(BadLot(1), view, ["a", "a", "q"])
        self.raises(BadWeights("a"), hall.best, {})
        self.raises(NoThing("q"), hall.who, "q")
        self.raises(UnlikeThings(), hall.against, bakers())

    def test_against_worlds_of_other_classes(self):
        hall = Hall(rooms())
        other = Web(["a", "b"], {"a": ("a", "b"), "b": ("a", "a"), "c": ("b", "a")})
        lot, x = hall.against(other)
        self.assertIsNone(both_fault(counts_family(rooms()), ties_family(other), lot, x))


class Point_14_5(unittest.TestCase, Halls):
    def test_document_example(self):
        hall = Hall(Web(["a", "b"], {"x": ("a", "b")}))
        self.assertEqual(hall.moved(), ([], []))
        hall.do(("tie", "y", "b", "a"))
        self.assertEqual(hall.moved(), ([], []))
        hall.do(("untie", "x"))
        self.assertEqual((hall.moved(), len(hall)), ((["x"], ["y"]), 2))
        hall.undo()
        self.assertEqual(hall.moved(), ([], []))

    def test_first_bases_of_the_last_two_worlds(self):
        chance = Random(145)
        seen = set()
        for world in some_worlds():
            hall = Hall(world)
            for _ in range(12):
                tried(chance.choice([hall.undo, hall.redo]) if chance.randint(0, 3) == 0 else
                      lambda hall=hall: hall.do(a_deed(hall.world, chance)))
                ways = list(hall.worlds())
                before, after = [family_of(one).base() for one in (ways[-2:-1] + ways[-1:] * 2)[:2]]
                right = (sorted(set(before) - set(after)), sorted(set(after) - set(before)))
                seen.add((right[0] != [], right[1] != []))
                self.assertEqual(hall.moved(), right)
        self.assertEqual(len(seen), 4)


class Point_14_6(unittest.TestCase, Halls):
    def state(self, hall):
        probe = hall.twin()
        undone = 0
        while not tried(probe.redo):
            undone += 1
        return hall.record(), undone, probe.record()

    def test_trials(self):
        chance = Random(146)
        for world in some_worlds():
            hall = Hall(world)
            for _ in range(8):
                tried(hall.do, a_deed(hall.world, chance))
            tried(hall.undo)
            for _ in range(10):
                steps = [chance.choice([("undo",), ("redo",), a_deed(hall.world, chance)]) for _ in range(chance.randint(0, 4))]
                before, now = self.state(hall), hall.world
                outcome = tried(hall.trial, steps)
                self.assertEqual(self.state(hall), before)
                self.assertTrue(hall.world == now)
                self.assertEqual(outcome, tried(self.ranks, hall.twin(), steps))

    def ranks(self, hall, steps):
        found = []
        for step in steps:
            if step == ("undo",):
                hall.undo()
            elif step == ("redo",):
                hall.redo()
            else:
                hall.do(step)
            family = family_of(hall.world)
            found.append(family.rank(family.things()))
        return found

    def test_trials_that_raise_midway(self):
        hall = Hall(triangle_web())
        hall.do(("place", "d"))
        hall.do(("tie", "p", "d", "a"))
        hall.undo()
        before = self.state(hall)
        self.assertEqual(hall.trial([("redo",), ("undo",), ("undo",), ("tie", "x", "a", "a"), ("undo",), ("redo",)]),
                         [3, 2, 2, 2, 2, 2])
        self.raises(NothingToRedo(), hall.trial, [("untie", "x"), ("redo",)])
        self.raises(NothingToUndo(), hall.trial, [("undo",), ("undo",), None])
        self.raises(NoThing("q"), hall.trial, [("redo",), ("untie", "q")])
        for bad in [*ODD_VALUES, "undo", ["undo"], ("undo", "x"), ("redo", 1), ("undo", ()), nested(list), nested(tuple)]:
            self.raises(BadDeed(), hall.trial, [("untie", "x"), bad])
        self.assertEqual(hall.trial([]), [])
        self.assertEqual(self.state(hall), before)

    def test_what_was_passed_to_a_trial_stays(self):
        steps = [("jobs", "dan", ["sing"]), ("undo",)]
        hall = Hall(bakers())
        self.assertEqual((hall.trial(steps), steps), ([3, 2], [("jobs", "dan", ["sing"]), ("undo",)]))

    def test_twins_go_their_own_ways(self):
        hall = Hall(triangle_web())
        for place in "de":
            hall.do(("place", place))
        hall.undo()
        twin = hall.twin()
        self.assertIsInstance(twin, Hall)
        self.assertIsNot(twin, hall)
        self.assertEqual(self.state(twin), self.state(hall))
        twin.do(("untie", "x"))
        hall.redo()
        self.assertEqual((twin.record(), hall.record()),
                         ([("place", "d"), ("untie", "x")], [("place", "d"), ("place", "e")]))
        self.raises(NothingToRedo(), twin.redo)
        hall.undo()
        hall.undo()
        self.raises(NothingToUndo(), hall.undo)
        twin.undo()
        twin.undo()
        self.assertTrue(twin.world == triangle_web())
        self.assertEqual(len(list(twin.worlds())), 1)


if __name__ == "__main__":
    unittest.main()
