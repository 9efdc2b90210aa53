"""Points 0.2 to 0.8 over all functions: what is passed and told is free, and equal calls tell the same."""

import copy
import unittest
from random import Random

from bothfree.both import both, both_fault, chain_fault, extended, greatest_set, least_set, needed, possible
from bothfree.chains import (count_swaps, distance, near_swaps, nearer_swaps, partners, partners_fault, swaps, swaps_fault,
                             twin, twins)
from bothfree.counts import Counts, counts_family, over_full, room_bound, room_fault, tight
from bothfree.errors import BadLot, BadNumber, BadWeights, LotError, UnlikeThings
from bothfree.families import alike, bases, free_lots, is_ring, listed, ring_of, rings
from bothfree.game import Play, answer as answer_to, paper, paper_fault, who
from bothfree.hall import Hall
from bothfree.hires import Hires, hire, hire_most, hires_family, other_side, short
from bothfree.many import (cover_fault, cover_paper, covered, fewest, is_cover_paper, is_pack_paper, most, pack_fault,
                           pack_paper, packed, parted, parted_paper, strength, strength_fault, thickness,
                           thickness_fault, union)
from bothfree.one import (all_heaviest, base_fault, free_fault, heaviest_base, heaviest_free, heaviest_of, moves,
                          number_fault, second, weight)
from bothfree.roads import Roads, cut_places, roads_family, turned_hires, ways, ways_most
from bothfree.rows import Rows, is_across, rows_family, sum_fault, sum_of, turned_rows, written
from bothfree.split import best_both, curve, heaviest_both, split, split_fault
from bothfree.texts import (counts_text, family_text, hires_text, lot_text, read_lot, read_weights, roads_text, rows_text,
                            weights_text, web_text, world_text)
from bothfree.turns import cut_short, drawn_in, free_on, inside, joined, named, ring_rows, turned, web_rows, without
from bothfree.webs import Web, cut_of, is_cut, pieces, ring_in, ties_family
from tests.helpers import NAMES, Telling, bakers, crossing, even, lots_of, rooms, told, triangle_web
from tests.makings import some_families


def spoil(value):
    """Empty every list and dict in a value."""
    if isinstance(value, (list, tuple)):
        for part in value:
            spoil(part)
    if isinstance(value, dict):
        for part in value.values():
            spoil(part)
    if isinstance(value, (list, dict)):
        value.clear()


def copied(value):
    """Return a copy of a value in which all lists and dicts are new; families stay the same."""
    if isinstance(value, (list, tuple)):
        return value.__class__([copied(part) for part in value])
    return {key: copied(part) for key, part in value.items()} if isinstance(value, dict) else value


def web_arguments():
    return [["b", "a", "c"], {"z": ("c", "a"), "x": ("a", "b"), "y": ("b", "c"), "l": ("c", "c")}]


def hires_arguments():
    return [["cat", "bob", "ann"], {"cat": ["cook", "bake"], "bob": ["bake"], "ann": ["bake"]}]


def listed_arguments():
    return [["c", "b", "a", "d"], [["c", "b"], ["b", "a"], ["a", "c"]]]


def roads_arguments():
    return [["d", "b", "a", "c"], [("c", "d"), ("b", "c"), ("a", "c")], ["d", "a", "b"], ["d"]]


def rows_arguments():
    return [{"c": [2, 4, 6], "b": [0, 1, 1], "a": [1, 0, 1]}]


def two_arguments():
    return [{"c": [1, 0], "b": [1, 1], "a": [0, 1]}]


def counts_arguments():
    return [["c", "b", "a"], [(["b", "a"], 1), (["c", "a", "b"], 2)]]


def over_whole(table):
    return Rows(table, over="whole")


def over_two(table):
    return Rows(table, over="two")


def asked_of_web(web):
    """Return calls with their arguments; each list of arguments begins with the function."""
    return [[web_text, web], [world_text, web], [web.places], [web.ties], [web.ends, "x"], [pieces, web, ["x", "l"]], [ring_in, web, ["z", "y", "x"]],
            [cut_of, web, ["b"]], [is_cut, web, ["y", "x"]], [lambda: web_rows(web).rows()], [lambda: ring_rows(web).rows()], *asked_of_family(ties_family(web), ["z", "x"], "y")]


def asked_of_hires(hires):
    return [[hires_text, hires], [world_text, hires], [hires.people], [hires.jobs_of, "cat"], [hire, hires, ["cat", "bob"]],
            [short, hires, ["cat", "bob", "ann"]], [hire_most, hires, ["cat", "bob", "ann"]],
            [lambda: told_of_hires(other_side(hires))],
            *asked_of_family(hires_family(hires), ["cat", "bob"], "ann")]


def told_of_hires(hires):
    return hires.people(), [hires.jobs_of(person) for person in hires.people()]


def asked_of_family(family, lot, thing):
    return [[family.things], [family.rank, lot], [family.is_free, lot], [family.is_base, lot], [family.span, lot],
            [family.base], [family.stuck], [family.sure], [ring_of, family, lot, thing], [is_ring, family, lot],
            [free_lots, family], [rings, family], [bases, family], [alike, family, even(len(family), 1)],
            *asked_of_weights(family, {name: at % 3 - 1 for at, name in enumerate(family.things())}, lot, thing),
            *asked_of_turns(family, lot), *asked_of_two(family, turned(family), lot), *asked_of_many(family, lot),
            *asked_of_chains(family), *asked_of_game(family, thing), [family_text, family]]


def asked_of_weights(family, weights, lot, thing):
    heaviest = heaviest_base(family, weights)
    return [[weight, family, weights, lot], [heaviest_base, family, weights], [heaviest_free, family, weights],
            [heaviest_of, family, weights, 2], [base_fault, family, weights, lot], [free_fault, family, weights, lot],
            [number_fault, family, weights, lot], [lambda: bases(all_heaviest(family, weights))],
            [moves, family, weights, heaviest, thing], [second, family, weights, heaviest]]


def asked_of_turns(family, lot):
    names = dict(zip(family.things(), NAMES[::-1]))
    return [[told_of, turned, family], [told_of, inside, family, lot], [told_of, without, family, lot],
            [told_of, drawn_in, family, lot], [told_of, joined, family, free_on(["q", "zz"])],
            [told_of, cut_short, family, 1], [told_of, named, family, names], [told_of, union, [family, turned(family)]]]


def told_of(make, *arguments):
    made = make(*arguments)
    return made.things(), bases(made)


def asked_of_two(one, other, lot):
    weights = {name: 2 * at % 5 - 1 for at, name in enumerate(one.things())}
    parts = [dict.fromkeys(weights, 0), dict(weights)]
    return [[both, one, other], [both_fault, one, other, lot, lot], [least_set, one, other], [greatest_set, one, other],
            [needed, one, other], [possible, one, other], [extended, one, other, []], [extended, one, other, lot],
            [chain_fault, one, other, [], lot], [chain_fault, one, other, [], lot[:1]],
            [heaviest_both, one, other, weights, 1], [split, one, other, weights, 1], [curve, one, other, weights],
            [split_fault, one, other, weights, lot[:1], *parts], [best_both, one, other, weights]]


def asked_of_many(family, lot):
    things = family.things()
    return [[covered, family, 3], [cover_paper, family, 1], [packed, family, 1], [pack_paper, family, 4],
            [cover_fault, family, 2, [lot, things]], [pack_fault, family, 2, [lot, lot]], [is_cover_paper, family, 1, lot],
            [is_pack_paper, family, 3, lot], [fewest, family], [most, family], [parted, [family, family], lot],
            [parted, [family] * 4, things], [parted_paper, [family], things], [thickness, family], [strength, family],
            [thickness_fault, family, (1, 1, lot, [lot])], [strength_fault, family, (1, 1, lot, [lot])]]


def asked_of_chains(family):
    one = family.base()
    other = heaviest_base(family, {thing: at for at, thing in enumerate(family.things())})
    thing = one[0] if one else "q"
    return [[distance, family, one, other], [near_swaps, family, one], [swaps, family, one, other],
            [nearer_swaps, family, one, other], [swaps_fault, family, one, other, [(thing, thing)]],
            [twin, family, one, other, thing], [twins, family, one, other, thing], [partners, family, one, other],
            [partners_fault, family, one, other, {thing: thing}], [count_swaps, family, one, other]]


def asked_of_game(family, mark):
    told_paper = paper(family, mark)
    other = [thing for thing in family.things() if thing != mark][0]
    return [[who, family, mark], [paper, family, mark], [paper_fault, family, mark, told_paper],
            [told_of_answer, family, mark, told_paper, other], [played, family, mark]]


def told_of_answer(family, mark, given, thing):
    reply, left, told_next = answer_to(family, mark, given, thing)
    return reply, bases(left), told_next


def played(family, mark):
    play = Play(family, mark, "joiner")
    found = []
    for thing in reversed(play.left()):
        found += [play.turn(), play.now(), play.best(), play.left(), play.winner()]
        play.take(play.best() or thing if thing in play.left() else play.left()[0])
    return found, play.taken("joiner"), play.taken("cutter"), play.winner()


def asked_of_roads(roads):
    return [[roads_text, roads], [world_text, roads], [roads.places], [roads.steps], [roads.doors], [roads.gates], [ways, roads, ["b"]],
            [ways, roads, ["b", "a"]], [cut_places, roads, ["b", "a"]], [ways_most, roads, ["d", "b", "a"]],
            [lambda: told_of_hires(turned_hires(roads))], *asked_of_family(roads_family(roads), ["b"], "a")]


def asked_of_rows(rows):
    given = sum_of(rows, rows.things())
    return [[rows_text, rows], [world_text, rows], [rows.things], [rows.rows], [rows.row, "b"], [rows.width], [rows.over], [sum_of, rows, ["c", "b", "a"]],
            [sum_fault, rows, ["c", "b", "a"], given], [written, rows, ["b", "a"], "c"], [is_across, rows, rows],
            [lambda: turned_rows(rows).rows()], *asked_of_family(rows_family(rows), ["b", "a"], "c")]


def asked_of_counts(counts):
    return [[counts_text, counts], [world_text, counts], [counts.things], [counts.rooms], [over_full, counts, ["b", "a"]], [tight, counts, ["c", "a"]],
            [room_bound, counts, ["c", "b", "a"]], [room_fault, counts, ["b", "c", "a"], ["c", "b"], [0]],
            *asked_of_family(counts_family(counts), ["c", "a"], "b")]


def answer(call):
    try:
        return call[0](*call[1:])
    except LotError as error:
        return told(error)


MADE = [(Web, web_arguments, asked_of_web), (Hires, hires_arguments, asked_of_hires),
        (listed, listed_arguments, lambda family: asked_of_family(family, ["c", "a"], "b")),
        (Roads, roads_arguments, asked_of_roads), (over_whole, rows_arguments, asked_of_rows),
        (over_two, two_arguments, asked_of_rows), (Counts, counts_arguments, asked_of_counts),
        (free_on, lambda: [["c", "a", "b"]], lambda family: asked_of_family(family, ["c", "a"], "b")),
        (lambda lots: union([listed(["a", "b", "c"], lots), free_on_one()]), lambda: [[["a", "b"], ["c", "b"]]],
         lambda family: asked_of_family(family, ["c", "a"], "b"))]


def free_on_one():
    return joined(free_on(["b"]), named(even(2, 0), {"a": "a", "b": "c"}))


class Point_0_2(unittest.TestCase):
    def test_what_was_passed_is_not_kept(self):
        for make, arguments, asked in MADE:
            passed = arguments()
            made = make(*passed)
            before = [answer(call) for call in asked(make(*arguments()))]
            spoil(passed)
            self.assertEqual([answer(call) for call in asked(made)], before)

    def test_what_was_passed_is_not_changed(self):
        for make, arguments, asked in MADE:
            passed = arguments()
            made = make(*passed)
            self.assertEqual(passed, arguments())
            for call in asked(made):
                lots = [argument for argument in call if isinstance(argument, (list, dict))]
                before = copied(lots)
                spoil(answer(call))
                self.assertEqual(lots, before)

    def test_what_was_told_is_new(self):
        for make, arguments, asked in MADE:
            made = make(*arguments())
            calls = asked(made)
            before = [copy.deepcopy(answer(call)) for call in calls]
            for call in calls:
                spoil(answer(call))
            self.assertEqual([answer(call) for call in calls], before)
            self.assertEqual([answer(call) for call in asked(made)], before)

    def test_the_values_of_an_error_are_new(self):
        lots = [["b", "a"], ["c", "d"]]
        try:
            listed(["a", "b", "c", "d"], lots)
        except LotError as error:
            spoil([error.one, error.other])
        self.assertEqual(lots, [["b", "a"], ["c", "d"]])

    def test_lots_of_one_answer_do_not_hang_together(self):
        for ask in (free_lots, rings, bases):
            lots = ask(ties_family(triangle_web()))
            before = copy.deepcopy(lots)
            lots[-1].append("more")
            self.assertEqual(lots[:-1], before[:-1])


class Point_0_3(unittest.TestCase):
    def test_an_error_changes_nothing(self):
        family = ties_family(triangle_web())
        before = [answer(call) for call in asked_of_family(family, ["x"], "y")]
        for call in ([family.rank, ["x", "x"]], [ring_of, family, ["l"], "x"], [ring_of, family, ["x"], "none"],
                     [all_heaviest, family, {"x": 1}], [second, family, dict.fromkeys("lxyz", 1), ["l"]]):
            self.assertIsInstance(answer(call), tuple)
        self.assertEqual([answer(call) for call in asked_of_family(family, ["x"], "y")], before)


class Point_0_4(unittest.TestCase):
    def test_equal_calls_on_equal_objects_tell_the_same(self):
        for make, arguments, asked in MADE:
            one = make(*arguments())
            other = make(*turned_about(arguments()))
            for _ in range(2):
                self.assertEqual([answer(call) for call in asked(one)], [answer(call) for call in asked(other)])

    def test_earlier_calls_mean_nothing(self):
        asked = bakers()
        for lot in (["cat"], ["bob", "cat"], ["cat", "ann", "bob"]):
            hire_most(asked, lot)
        for lot in (["cat"], ["ann", "cat"], ["ann", "bob", "cat"]):
            self.assertEqual(hire_most(asked, lot), hire_most(bakers(), lot))


class Point_0_4_of_what_changes(unittest.TestCase):
    def test_equal_histories_tell_the_same(self):
        steps = [("place", "d"), ("tie", "p", "d", "a"), ("untie", "x"), ("tie", "y", "a", "d")]
        halls = [Hall(Web(*web_arguments())), Hall(Web(*turned_about(web_arguments())))]
        for step in steps:
            for hall in halls:
                hall.do(step)
            one, other = [[answer(call) for call in asked_of_hall(hall)] for hall in halls]
            self.assertEqual(one, other)

    def test_what_a_hall_tells_may_be_changed(self):
        hall = Hall(Hires(*hires_arguments()))
        hall.do(("jobs", "dan", ["bake", "cook"]))
        before = [copied(answer(call)) for call in asked_of_hall(hall)]
        for call in asked_of_hall(hall):
            spoil(answer(call))
        self.assertEqual([answer(call) for call in asked_of_hall(hall)], before)

    def test_texts_of_lots_and_weights(self):
        lot, weights = ["b", "a"], {"b": -1, "a": 2}
        self.assertEqual((lot_text(lot), weights_text(weights), lot, weights), ("a b", "a=2 b=-1", ["b", "a"], {"b": -1, "a": 2}))
        spoil(read_lot("a b"))
        spoil(read_weights("a=2"))
        self.assertEqual((read_lot("a b"), read_weights("a=2")), (["a", "b"], {"a": 2}))


def asked_of_hall(hall):
    things = hall.things()
    return [[len, hall], [hall.record], [hall.things], [hall.base], [hall.stuck], [hall.sure], [hall.span, things[:1]],
            [hall.why, things], [hall.best, dict.fromkeys(things, 1)], [hall.fewest], [hall.most], [hall.who, things[0]],
            [hall.against, hall.world], [hall.moved], [hall.trial, [("undo",), ("redo",)]], [lambda: world_text(hall.world)]]


def turned_about(arguments):
    """Return arguments that make an equal object: with all things and keys the other way round."""
    if arguments in (rows_arguments(), two_arguments()):
        return [dict(reversed(arguments[0].items()))]
    if arguments == roads_arguments():
        return [part[::-1] for part in arguments]
    if arguments == counts_arguments():
        return [arguments[0][::-1], [(lot[::-1], number) for lot, number in arguments[1]]]
    return [all_turned_about(part) for part in arguments]


def all_turned_about(value):
    """Return a value with the entries of all lists, tuples and dicts the other way round."""
    if isinstance(value, dict):
        return {key: all_turned_about(part) for key, part in reversed(value.items())}
    if isinstance(value, (list, tuple)):
        return value.__class__([all_turned_about(part) for part in reversed(value)])
    return value


class Point_0_5(unittest.TestCase, Telling):
    def test_told_lots_are_sorted(self):
        for family, _ in some_families():
            told_lots = [family.things(), family.base(), family.stuck(), family.sure(), family.span([])]
            for lot in told_lots + free_lots(family) + rings(family) + bases(family):
                self.assertEqual(lot, sorted(set(lot)))

    def test_a_lot_may_stand_in_any_order(self):
        family = ties_family(triangle_web())
        self.assertEqual(family.rank(["z", "x"]), family.rank(["x", "z"]))
        self.assertIs(is_ring(family, ["z", "x", "y"]), True)
        self.assertEqual(ring_of(family, ["z", "x"], "y"), ["x", "y", "z"])

    def test_a_wrong_lot_comes_ahead_of_other_errors_about_it(self):
        self.raises(BadLot(1), ring_of, ties_family(triangle_web()), ["l", "l"], "none")


class Point_0_6(unittest.TestCase, Telling):
    def test_wrong_weights_come_ahead_of_lots_and_numbers(self):
        family = counts_family(rooms())
        self.raises(BadWeights("a"), weight, family, {}, ["x"])
        self.raises(BadWeights("b"), heaviest_of, family, {"a": 1, "b": True, "c": 1}, -1)
        self.raises(BadWeights("d"), second, family, {"a": 1, "b": 1, "c": 1, "d": 1}, [])
        self.raises(BadNumber(False), heaviest_of, family, {"a": 1, "b": 1, "c": 1}, False)


class Point_0_7(unittest.TestCase, Telling):
    def test_unlike_things_come_ahead_of_all_else(self):
        one, other = even(2, 1), even(3, 1)
        for call in (both, least_set, greatest_set, needed, possible):
            self.raises(UnlikeThings(), call, one, other)
        for call in (heaviest_both, split):
            self.raises(UnlikeThings(), call, one, other, {}, None)
            self.raises(BadWeights("a"), call, one, one, {}, None)
            self.raises(BadNumber(None), call, one, one, {"a": 1, "b": 1}, None)
        self.raises(UnlikeThings(), alike, even(14, 2), even(13, 2))
        self.raises(UnlikeThings(), alike, even(13, 2), even(2, 2))
        self.raises(UnlikeThings(), is_across, over_two({"a": [1]}), over_whole({"b": [1]}))


class Point_0_8(unittest.TestCase):
    def test_sixty_makings_one_out_of_the_other(self):
        for first in (ties_family(triangle_web()), hires_family(bakers()), listed(*listed_arguments())):
            family = first
            for _ in range(60):
                family = turned(family)
            self.assertIsNone(alike(family, first))
            thing = first.base()[0]
            for lot in free_lots(first):
                calls = zip(asked_of_family(family, lot, thing), asked_of_family(first, lot, thing))
                for made, direct in calls:
                    self.assertEqual(answer(made), answer(direct))

    def test_sixty_times_the_heaviest(self):
        chance = Random(8)
        worlds = [roads_family(crossing()), counts_family(rooms()), rows_family(over_whole(*rows_arguments())), even(8, 4)]
        for first in worlds:
            family = first
            sums = dict.fromkeys(first.things(), 0)
            for _ in range(60):
                weights = {thing: chance.randint(0, 3) // 3 for thing in sums}
                sums = {thing: 10 * sums[thing] + weights[thing] for thing in sums}
                family = all_heaviest(family, weights)
            # The weights of earlier makings go ahead of those of later ones, as digits do.
            self.assertEqual(bases(family), bases(all_heaviest(first, sums)))

    def test_the_heaviest_and_the_rests_by_turns(self):
        chance = Random(9)
        family, known = even(6, 3), lots_of(NAMES[:6])
        known = [lot for lot in known if len(lot) == 3]
        for _ in range(30):
            weights = {thing: chance.randint(0, 8) // 8 for thing in NAMES[:6]}
            family = all_heaviest(turned(family), weights)
            known = [[thing for thing in NAMES[:6] if thing not in lot] for lot in known]
            most = max(sum(weights[thing] for thing in lot) for lot in known)
            known = [lot for lot in known if sum(weights[thing] for thing in lot) == most]
        self.assertEqual(bases(family), sorted(known))

    def test_sixty_makings_of_24_things(self):
        chance = Random(10)
        family = even(24, 12)
        for at in range(60):
            if at % 3 == 2:
                family = turned(family)
            else:
                # Weights that differ seldom leave many bases, and many parts ask for their ranks on the way down.
                family = all_heaviest(family, {thing: chance.randint(0, 1) for thing in family.things()})
        self.assertEqual(len(family.base()), 12)
