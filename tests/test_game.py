"""Points 13.1 to 13.8 and 16.7: the game, its papers, and games that are played."""

import unittest
from itertools import product
from random import Random

from bothfree.errors import BadPaper, BadPlayer, Gone, NoThing, NothingToUndo, SameThing
from bothfree.families import Family
from bothfree.game import Play, answer, paper, paper_fault, who
from bothfree.turns import cut_short, drawn_in, free_on, inside, joined, named, turned, without
from bothfree.webs import Web, ties_family
from tests.helpers import NAMES, ODD_VALUES, Telling, even, lots_of, nested, world_families
from tests.makings import (made_families, rest_of, searched_drawn_in, searched_turned, searched_without,
                           shuffled_names)

OTHER = {"joiner": "cutter", "cutter": "joiner"}


def example():
    """Return the family of the document's example."""
    return cut_short(free_on(["a", "b", "c", "m"]), 2)


def samples(most=5):
    """Return pairs of a family with one to so many things and the same one by plain search."""
    worlds = world_families()
    return [pair for pair in worlds + made_families(worlds) if 1 <= len(pair[0]) <= most]


class Plays:
    """All plays of the game with a family by plain search and a mark."""

    def __init__(self, searched, mark):
        self.searched = searched
        self.mark = mark
        self.others = rest_of(searched.things, [mark])
        self.spans = {}
        self.known = {}

    def joins(self, lot):
        """Tell whether the mark is in the span of a lot."""
        key = tuple(sorted(lot))
        if key not in self.spans:
            self.spans[key] = self.searched.rank([*lot, self.mark]) == self.searched.rank(lot)
        return self.spans[key]

    def wins(self, player, turn, joined_lot=(), cut_lot=()):
        """Tell whether a player can win from a position, in which it is somebody's turn, against every play."""
        key = (turn, tuple(sorted(joined_lot)), tuple(sorted(cut_lot)))
        if key not in self.known:
            left = rest_of(self.others, [*joined_lot, *cut_lot])
            if not left:
                winner = "joiner" if self.joins(joined_lot) else "cutter"
            else:
                behind = [self.behind(turn, thing, joined_lot, cut_lot) for thing in left]
                own = any(self.wins(turn, OTHER[turn], *lots) for lots in behind)
                winner = turn if own else OTHER[turn]
            self.known[key] = winner
        return self.known[key] == player

    @staticmethod
    def behind(turn, thing, joined_lot, cut_lot):
        return ([*joined_lot, thing], cut_lot) if turn == "joiner" else (joined_lot, [*cut_lot, thing])

    def who(self):
        for player in OTHER:
            if self.wins(player, OTHER[player]):
                return player
        return "first"


def lots_word(searched, mark, a, b):
    """Judge two lists of strings as joiner's lots of a family by plain search."""
    for lot in (a, b):
        if set(lot) - set(searched.things) or len(set(lot)) < len(lot) or mark in lot:
            return "lot"
    if set(a) & set(b):
        return "common"
    if not searched.is_free(a) or not searched.is_free(b):
        return "free"
    if searched.span(a) != searched.span(b):
        return "span"
    return None if mark in searched.span(a) else "mark"


def own_lots_word(searched, player, mark, a, b):
    return lots_word(searched if player == "joiner" else searched_turned(searched), mark, a, b)


def paper_word(searched, mark, told):
    """Judge a value with the form of a paper as paper_fault is to do it."""
    if told[0] != "first":
        return own_lots_word(searched, told[0], mark, *told[1:])
    for player, (thing, a, b) in zip(OTHER, told[1:]):
        if thing not in searched.things or thing == mark:
            return "thing"
        make = searched_drawn_in if player == "joiner" else searched_without
        word = own_lots_word(make(searched, [thing]), player, mark, a, b)
        if word is not None:
            return word
    return None


class Point_13_1(unittest.TestCase):
    def test_the_joiner_wins_with_the_mark_in_the_span(self):
        for takes, winner in ((["a", "b", "c"], "joiner"), (["b", "c"], None)):
            play = Play(example(), "m", "joiner")
            for thing in takes:
                play.take(thing)
            self.assertEqual(play.winner(), winner)

    def test_what_is_left_tells_all_that_matters(self):
        chance = Random(131)
        for family, searched in samples(4):
            for mark in searched.things:
                others = chance.sample(rest_of(searched.things, [mark]), len(searched.things) - 1)
                joined_lot, cut_lot = others[:1], others[1:2]
                left = drawn_in(without(family, cut_lot), joined_lot)
                for more in lots_of(others[2:]):
                    told = searched.rank([*joined_lot, *more, mark]) == searched.rank([*joined_lot, *more])
                    self.assertIs(mark in left.span(more), told)


class Point_13_2(unittest.TestCase):
    def test_by_going_through_all_plays(self):
        seen = {}
        for family, searched in samples(6):
            for mark in searched.things:
                word = Plays(searched, mark).who()
                seen[word] = seen.get(word, 0) + 1
                self.assertEqual(who(family, mark), word)
        self.assertTrue(all(seen[word] > 20 for word in ("joiner", "cutter", "first")), seen)

    def test_document_example(self):
        self.assertEqual(who(example(), "m"), "first")

    def test_marks_that_are_stuck_and_sure_and_alone(self):
        self.assertEqual((who(even(1, 0), "a"), who(even(1, 1), "a")), ("joiner", "cutter"))
        self.assertEqual((who(even(5, 0), "b"), who(even(5, 5), "b")), ("joiner", "cutter"))
        self.assertEqual((who(even(24, 0), "b"), who(even(24, 24), "b")), ("joiner", "cutter"))

    def test_24_things(self):
        self.assertEqual([who(even(24, rank), "m") for rank in (11, 12, 13)], ["joiner", "first", "cutter"])
        pairs = [(NAMES[one], NAMES[other]) for other in range(7) for one in range(other)]
        web = Web(NAMES[:7], dict(zip(NAMES, pairs)))
        self.assertEqual(who(ties_family(web), "a"), "joiner")


class Point_13_3(unittest.TestCase):
    def test_lots_are_there_just_if_who_tells_so(self):
        for family, searched in samples(4):
            for mark in searched.things:
                lots = lots_of(rest_of(searched.things, [mark]))
                for player in OTHER:
                    there = any(own_lots_word(searched, player, mark, a, b) is None for a in lots for b in lots)
                    self.assertIs(there, who(family, mark) == player)


class Point_13_4(unittest.TestCase):
    def test_papers_of_all_three_forms(self):
        for family, searched in samples(6):
            for mark in searched.things:
                told = paper(family, mark)
                self.assertIsInstance(told, tuple)
                self.assertEqual(told[0], who(family, mark))
                self.assertIsNone(paper_word(searched, mark, told))
                lots = told[1:] if told[0] != "first" else told[1][1:] + told[2][1:]
                self.assertTrue(all(lot == sorted(lot) for lot in lots))

    def test_edges(self):
        self.assertEqual((paper(even(1, 0), "a"), paper(even(1, 1), "a")), (("joiner", [], []), ("cutter", [], [])))
        for rank in (0, 11, 12, 13, 24):
            self.assertIsNone(paper_fault(even(24, rank), "m", paper(even(24, rank), "m")))


class Point_13_5(unittest.TestCase):
    def test_document_example(self):
        right = ("first", ("a", ["b"], ["c"]), ("a", ["b"], ["c"]))
        self.assertIsNone(paper_fault(example(), "m", right))

    def test_papers_of_all_lots(self):
        chance = Random(135)
        seen = set()
        for family, searched in samples(5):
            for mark in searched.things:
                lots = lots_of(searched.things)
                told = []
                for word in OTHER:
                    told += [(word, chance.choice(lots), chance.choice(lots)) for _ in range(12)]
                things = [*searched.things, "q"]
                for _ in range(12):
                    parts = [(chance.choice(things), chance.choice(lots), chance.choice(lots)) for _ in range(2)]
                    told.append(("first", *parts))
                right = paper(family, mark)
                if right[0] == "first":
                    told += [right, ("first", right[1], told[-1][2]), ("first", told[-1][1], right[2])]
                for given in told:
                    word = paper_word(searched, mark, given)
                    seen.add((given[0] == "first", word))
                    self.assertEqual(paper_fault(family, mark, given), word, given)
        words = {"lot", "common", "free", "span", "mark", None}
        self.assertEqual(seen, {(False, word) for word in words} | {(True, word) for word in words | {"thing"}})

    def test_right_papers_bent_at_one_place(self):
        family = ties_family(Web(["a", "b"], {name: ("a", "b") for name in ["m", "x", "y", "z"]}))
        self.assertIsNone(paper_fault(family, "m", ("joiner", ["z"], ["x"])))
        for a, b, word in ((["q"], ["x"], "lot"), (["m"], ["x"], "lot"), (["x", "x"], ["y"], "lot"), (["x"], ["x"], "common"),
                           (["x", "y"], ["y"], "common"), (["x", "y"], ["z"], "free"), (["x"], [], "span"), ([], [], "mark")):
            self.assertEqual(paper_fault(family, "m", ("joiner", a, b)), word)
            self.assertEqual(paper_fault(turned(family), "m", ("cutter", a, b)), word)
        good = ("a", ["b"], ["c"])
        for bent, word in ((("m", ["b"], ["c"]), "thing"), (("q", ["b"], ["c"]), "thing"), (("a", ["a"], ["c"]), "lot"),
                           (("a", ["b"], ["m"]), "lot"), (("a", ["b"], ["b"]), "common"), (("a", ["b", "c"], []), "free"),
                           (("a", ["b"], []), "span"), (("a", [], []), "mark")):
            self.assertEqual(paper_fault(example(), "m", ("first", bent, good)), word)
            self.assertEqual(paper_fault(example(), "m", ("first", good, bent)), word)
            self.assertEqual(paper_fault(example(), "m", ("first", bent, ("q", [], []))), word)

    def test_the_form_of_both_parts_comes_ahead_of_all_else(self):
        good, wrong = ("a", ["b"], ["c"]), ("q", ["q"], ["q", "q"])
        for bent in (("a", ["b"]), ("a", ["b"], ["c"], []), ["a", ["b"], ["c"]], ("a", "b", ["c"]), ("a", ["b"], ("c",)),
                     (1, ["b"], ["c"]), (None, ["b"], ["c"]), (["a"], ["b"], ["c"]), ("a", [1], ["c"]), ("a", ["b"], [["c"]]),
                     None, "abc", (), ("a", nested(list), ["c"]), (nested(tuple), ["b"], ["c"]), nested(tuple)):
            for parts in ((good, bent), (bent, good), (wrong, bent), (bent, wrong)):
                self.assertEqual(paper_fault(example(), "m", ("first", *parts)), "form")

    def test_values_of_any_kind(self):
        good = ("a", ["b"], ["c"])
        for value in [*ODD_VALUES, 1, "joiner", ("joiner",), ("joiner", ["a"]), ("joiner", ["a"], ["b"], []), ["joiner", [], []],
                      ("first", good), ("first", good, good, good), ("first", ["b"], ["c"]), ("joiner", good, good),
                      ("nobody", [], []), ("", [], []), (None, [], []), (True, [], []), (["joiner"], [], []), ("joiner", "a", []),
                      ("cutter", [], ()), ("cutter", [], [1]), ("cutter", [None], []), ("joiner", [["a"]], []),
                      ("joiner", {"a": 1}, []), nested(list), nested(tuple), (nested(tuple), [], []), ("joiner", nested(list), [])]:
            self.assertEqual(paper_fault(example(), "m", value), "form", value)


class Point_13_6(unittest.TestCase, Telling):
    def assert_answers(self, family, searched, mark, given, chance):
        """Follow a paper step by step to the end, while the opponent takes anything."""
        taken = {"joiner": [], "cutter": []}
        player = given[0]
        first, plays = searched, Plays(searched, mark)
        while len(family) > 1:
            thing = chance.choice(rest_of(family.things(), [mark]))
            taken[OTHER[player]].append(thing)
            told = answer(family, mark, given, thing)
            self.assertIsInstance(told, tuple)
            reply, family, given = told
            self.assertIsInstance(family, Family)
            if reply is not None:
                self.assertNotIn(reply, (mark, thing))
                taken[player].append(reply)
            self.assertEqual(family.things(), rest_of(first.things, taken["joiner"] + taken["cutter"]))
            self.assertIs(reply is None, thing in rest_of(searched.things, [mark]) and len(searched.things) == 2)
            searched = searched_drawn_in(searched_without(first, taken["cutter"]), taken["joiner"])
            for lot in lots_of(family.things()):
                self.assertEqual(family.rank(lot), searched.rank(lot))
            self.assertEqual((given[0], paper_word(searched, mark, given)), (player, None))
        self.assertIs(plays.joins(taken["joiner"]), player == "joiner")

    def test_answers_to_the_end(self):
        chance = Random(136)
        for family, searched in samples(6):
            for mark in searched.things:
                given = paper(family, mark)
                if given[0] != "first":
                    for _ in range(2):
                        self.assert_answers(family, searched, mark, given, chance)

    def test_answers_to_every_first_take_by_every_right_paper(self):
        for family, searched in samples(4):
            for mark in searched.things:
                lots = lots_of(rest_of(searched.things, [mark]))
                for player, a, b in product(OTHER, lots, lots):
                    if own_lots_word(searched, player, mark, a, b) is None:
                        for thing in rest_of(searched.things, [mark]):
                            reply, left, given = answer(family, mark, (player, a[::-1], b), thing)
                            self.assertIsNone(paper_fault(left, mark, given))

    def test_errors_in_their_order(self):
        family = ties_family(Web(["a", "b"], {name: ("a", "b") for name in ["m", "x", "y", "z"]}))
        right = ("joiner", ["x"], ["y"])
        for bent in [*ODD_VALUES, ("joiner", [], []), ("cutter", ["x"], ["y"]), ("joiner", ["x"], ["x"]), nested(tuple)]:
            self.raises(BadPaper(), answer, family, "m", bent, "q")
        first = paper(example(), "m")
        self.assertIsNone(paper_fault(example(), "m", first))
        self.raises(BadPaper(), answer, example(), "m", first, "q")
        for thing in ("q", "", "M"):
            self.raises(NoThing(thing), answer, family, "m", right, thing)
        self.raises(SameThing("m"), answer, family, "m", right, "m")

    def test_24_things(self):
        chance = Random(1360)
        for family in (even(24, 11), even(24, 13), turned(even(24, 13))):
            given = paper(family, "m")
            player = given[0]
            while len(family) > 1:
                reply, family, given = answer(family, "m", given, chance.choice(rest_of(family.things(), ["m"])))
                self.assertIsNone(paper_fault(family, "m", given))
                self.assertEqual(given[0], player)
            self.assertEqual(family.rank(["m"]), 0 if player == "joiner" else 1)


class Point_13_7(unittest.TestCase, Telling):
    def test_turns_and_takes(self):
        for begins in OTHER:
            play = Play(example(), "m", begins)
            self.assertEqual((play.turn(), play.left(), len(play), play.winner()), (begins, ["a", "b", "c"], 0, None))
            self.assertIsNone(play.take("b"))
            self.assertEqual((play.turn(), play.left(), len(play)), (OTHER[begins], ["a", "c"], 1))
            play.take("a")
            play.take("c")
            self.assertEqual((play.turn(), play.left(), len(play)), (None, [], 3))
            self.assertEqual((play.taken(begins), play.taken(OTHER[begins])), (["b", "c"], ["a"]))
            self.assertEqual((play.winner(), play.now(), play.best()), (begins, begins, None))

    def test_undo_to_the_first_take(self):
        play = Play(example(), "m", "cutter")
        self.raises(NothingToUndo(), play.undo)
        for thing in ("c", "a", "b"):
            play.take(thing)
        self.assertIsNone(play.undo())
        self.assertEqual((play.left(), play.turn(), play.taken("cutter"), len(play)), (["b"], "cutter", ["c"], 2))
        play.undo()
        play.undo()
        self.assertEqual((play.left(), play.turn(), play.taken("joiner"), len(play)), (["a", "b", "c"], "cutter", [], 0))
        self.raises(NothingToUndo(), play.undo)
        play.take("c")
        self.assertEqual(play.taken("cutter"), ["c"])

    def test_errors_change_nothing(self):
        play = Play(example(), "m", "joiner")
        play.take("b")
        for thing in ("q", "", "B"):
            self.raises(NoThing(thing), play.take, thing)
        self.raises(SameThing("m"), play.take, "m")
        self.raises(Gone("b"), play.take, "b")
        for player in ("first", "", "Joiner", "nobody"):
            self.raises(BadPlayer(player), play.taken, player)
            self.raises(BadPlayer(player), Play, example(), "m", player)
        self.assertEqual((len(play), play.left(), play.turn()), (1, ["a", "c"], "cutter"))
        play.take("a")
        play.take("c")
        self.raises(Gone("a"), play.take, "a")

    def test_what_was_told_is_new(self):
        play = Play(example(), "m", "joiner")
        play.take("b")
        play.left().clear()
        play.taken("joiner").clear()
        self.assertEqual((play.left(), play.taken("joiner")), (["a", "c"], ["b"]))

    def test_winner_now_and_best_by_going_through_all_plays(self):
        chance = Random(137)
        for family, searched in samples(6):
            for mark in searched.things:
                plays = Plays(searched, mark)
                play = Play(family, mark, chance.choice(list(OTHER)))
                lots = {"joiner": [], "cutter": []}
                while True:
                    self.assert_position(play, plays, lots)
                    if not play.left():
                        break
                    thing = chance.choice(play.left())
                    lots[play.turn()].append(thing)
                    play.take(thing)
                    self.assertEqual((play.taken("joiner"), play.taken("cutter")), (lots["joiner"], lots["cutter"]))

    def assert_position(self, play, plays, lots):
        left = rest_of(plays.others, lots["joiner"] + lots["cutter"])
        self.assertEqual(play.left(), left)
        winner = "joiner" if plays.joins(lots["joiner"]) else None if plays.joins(lots["joiner"] + left) else "cutter"
        self.assertEqual(play.winner(), winner)
        turn = play.turn() or "joiner"
        now = "joiner" if plays.wins("joiner", turn, lots["joiner"], lots["cutter"]) else "cutter"
        self.assertEqual(play.now(), now)
        best = play.best()
        if not left or now != turn:
            self.assertIsNone(best)
        else:
            behind = plays.behind(turn, best, lots["joiner"], lots["cutter"])
            self.assertIn(best, left)
            self.assertTrue(plays.wins(turn, OTHER[turn], *behind))

    def test_a_play_of_best_takes_with_24_things(self):
        chance = Random(1370)
        web = Web(NAMES[:9], {name: tuple(chance.sample(NAMES[:9], 2)) for name in NAMES[:24]})
        for family in (even(24, 12), ties_family(web)):
            play = Play(family, "m", "joiner")
            winner = play.now()
            while play.turn() is not None:
                best = play.best()
                self.assertIs(best is None, play.turn() != winner)
                play.take(best or chance.choice(play.left()))
                self.assertEqual(play.now(), winner)
            self.assertEqual((play.winner(), len(play)), (winner, 23))

    def test_the_mark_alone(self):
        for rank, winner in ((0, "joiner"), (1, "cutter")):
            play = Play(even(1, rank), "a", "joiner")
            self.assertEqual((play.turn(), play.left(), play.winner(), play.now(), play.best()), (None, [], winner, winner, None))
            self.raises(SameThing("a"), play.take, "a")

    def test_methods_stand_in_the_class_itself(self):
        for name in ("turn", "left", "taken", "take", "undo", "winner", "now", "best", "__len__"):
            self.assertIn(name, vars(Play))


class Point_13_8(unittest.TestCase, Telling):
    def test_marks_that_are_no_things(self):
        for mark in ("q", "", "M"):
            self.raises(NoThing(mark), who, example(), mark)
            self.raises(NoThing(mark), paper, example(), mark)
            self.raises(NoThing(mark), paper_fault, example(), mark, None)
            self.raises(NoThing(mark), answer, example(), mark, None, mark)
            self.raises(NoThing(mark), Play, example(), mark, "nobody")


class Point_16_7(unittest.TestCase):
    def test_just_one_of_three_holds(self):
        for family, searched in samples(5):
            for mark in searched.things:
                plays = Plays(searched, mark)
                second = [player for player in OTHER if plays.wins(player, OTHER[player])]
                self.assertLessEqual(len(second), 1)
                if not second:
                    self.assertTrue(plays.wins("joiner", "joiner") and plays.wins("cutter", "cutter"))

    def test_turned_round_the_players_change_sides(self):
        for family, searched in samples(6):
            for mark in searched.things:
                self.assertEqual(who(turned(family), mark), {**OTHER, "first": "first"}[who(family, mark)])

    def test_sixty_makings(self):
        chance = Random(167)
        family = cut_short(joined(even(12, 5), named(even(12, 6), dict(zip(NAMES, NAMES[12:24])))), 10)
        words = [who(family, mark) for mark in family.things()]
        mark = "a"
        for at in range(57):
            if at % 3 == 2:
                names = shuffled_names(family.things(), NAMES[:24], chance)
                family, mark = named(family, names), names[mark]
            else:
                family = turned(family) if at % 3 else inside(family, family.things())
        self.assertEqual(who(turned(family), mark), words[0])
        self.assertIsNone(paper_fault(family, mark, paper(family, mark)))


if __name__ == "__main__":
    unittest.main()
