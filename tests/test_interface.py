"""The interface: each name stands in its own file, with its arguments; each listed method in its class itself."""

import importlib
import inspect
import unittest

# A class is told with its listed methods.
FUNCTIONS = {
    "families": "ring_of(family, lot, thing) is_ring(family, lot) free_lots(family) rings(family) bases(family) "
                "listed(things, lots) alike(one, other)",
    "webs": "ties_family(web) pieces(web, lot) ring_in(web, lot) cut_of(web, side) is_cut(web, lot)",
    "hires": "hires_family(hires) hire(hires, lot) short(hires, lot) hire_most(hires, lot) other_side(hires)",
    "roads": "roads_family(roads) ways(roads, lot) cut_places(roads, lot) ways_most(roads, lot) turned_hires(roads)",
    "rows": "rows_family(rows) sum_of(rows, lot) sum_fault(rows, lot, given) written(rows, lot, thing) turned_rows(rows) "
            "is_across(one, other)",
    "counts": "counts_family(counts) over_full(counts, lot) tight(counts, lot) room_bound(counts, lot) "
              "room_fault(counts, lot, part, chosen)",
    "one": "weight(family, weights, lot) heaviest_base(family, weights) heaviest_free(family, weights) "
           "heaviest_of(family, weights, k) base_fault(family, weights, lot) free_fault(family, weights, lot) "
           "number_fault(family, weights, lot) all_heaviest(family, weights) moves(family, weights, lot, thing) "
           "second(family, weights, lot)",
    "turns": "turned(family) inside(family, lot) without(family, lot) drawn_in(family, lot) joined(one, other) "
             "cut_short(family, k) free_on(things) named(family, names) web_rows(web) ring_rows(web)",
    "both": "both(one, other) both_fault(one, other, lot, x) least_set(one, other) greatest_set(one, other) "
            "needed(one, other) possible(one, other) extended(one, other, lot) chain_fault(one, other, lot, chain)",
    "split": "heaviest_both(one, other, weights, k) split(one, other, weights, k) "
             "split_fault(one, other, weights, lot, first, second) curve(one, other, weights) best_both(one, other, weights)",
    "many": "covered(family, k) packed(family, k) cover_paper(family, k) pack_paper(family, k) cover_fault(family, k, lots) "
            "pack_fault(family, k, lots) is_cover_paper(family, k, lot) is_pack_paper(family, k, lot) fewest(family) "
            "most(family) parted(families, lot) parted_paper(families, lot) union(families) thickness(family) "
            "strength(family) thickness_fault(family, thing) strength_fault(family, thing)",
    "chains": "distance(family, one, other) near_swaps(family, base) swaps(family, one, other) "
              "nearer_swaps(family, one, other) swaps_fault(family, one, other, given) twin(family, one, other, thing) "
              "twins(family, one, other, thing) partners(family, one, other) partners_fault(family, one, other, given) "
              "count_swaps(family, one, other)",
    "game": "who(family, mark) paper(family, mark) paper_fault(family, mark, paper) answer(family, mark, paper, thing)",
    "texts": "web_text(web) hires_text(hires) roads_text(roads) rows_text(rows) counts_text(counts) world_text(world) "
             "read_web(text) read_hires(text) read_roads(text) read_rows(text) read_counts(text) read_world(text) "
             "family_text(family) read_family(text) lot_text(lot) weights_text(weights) read_lot(text) read_weights(text)",
}
CLASSES = {
    "families.Family": "things() span(lot) base() stuck() sure() rank(lot) is_free(lot) is_base(lot) __len__() "
                       "__contains__(thing)",
    "webs.Web": "__init__(places, ties) places() ties() ends(tie) __eq__(other)",
    "hires.Hires": "__init__(people, jobs) people() jobs_of(person) __eq__(other)",
    "roads.Roads": "__init__(places, steps, doors, gates) places() steps() doors() gates() __eq__(other)",
    "rows.Rows": "__init__(rows, *, over) things() rows() row(thing) width() over() __eq__(other)",
    "counts.Counts": "__init__(things, rooms) things() rooms() __eq__(other)",
    "game.Play": "__init__(family, mark, begins) turn() left() taken(player) take(thing) undo() winner() now() best() "
                 "__len__()",
    "hall.Hall": "__init__(world) do(deed) undo() redo() record() worlds() family() things() span(lot) base() stuck() "
                 "sure() best(weights) rank(lot) is_free(lot) is_base(lot) why(lot) fewest() most() who(mark) "
                 "against(world) moved() trial(steps) twin() __len__() __iadd__(other)",
}


def calls_in(told):
    """Return the calls that stand in a line, such as "rank(lot)"."""
    return [call.strip() + ")" for call in told.split(")") if call.strip()]


def call_of(name, function, own):
    """Return the name of a function with its arguments, without those of its own object."""
    taken = [str(part) for part in inspect.signature(function).parameters.values()]
    if "over" in taken:
        taken.insert(taken.index("over"), "*")
    return f"{name}({', '.join(taken[own:])})"


class Interface(unittest.TestCase):
    def test_functions(self):
        for home, told in FUNCTIONS.items():
            module = importlib.import_module(f"bothfree.{home}")
            for call in calls_in(told):
                name = call.split("(")[0]
                function = vars(module)[name]
                self.assertEqual((function.__module__, call_of(name, function, 0)), (module.__name__, call))

    def test_classes_and_their_methods(self):
        for place, told in CLASSES.items():
            home, name = place.split(".")
            module = importlib.import_module(f"bothfree.{home}")
            self.assertEqual(vars(module)[name].__module__, module.__name__)
            for call in calls_in(told):
                method = call.split("(")[0]
                self.assertEqual(call_of(method, vars(vars(module)[name])[method], 1), call)


if __name__ == "__main__":
    unittest.main()
