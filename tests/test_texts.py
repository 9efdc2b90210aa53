"""Points 15.1 to 15.5: texts of worlds, families, lots and weights, and the way back."""

import unittest
from random import Random

from bothfree.counts import Counts
from bothfree.errors import BadThings, BadWeights, BrokenBases, LotError, NoText, TooMany
from bothfree.families import Family, alike, bases, listed
from bothfree.hires import Hires
from bothfree.roads import Roads
from bothfree.rows import Rows
from bothfree.texts import (counts_text, family_text, hires_text, lot_text, read_counts, read_family, read_hires, read_lot,
                            read_roads, read_rows, read_web, read_weights, read_world, roads_text, rows_text, web_text,
                            weights_text, world_text)
from bothfree.turns import cut_short, free_on
from bothfree.webs import Web
from tests.helpers import (NAMES, ODD_VALUES, Telling, bakers, crossing, even, nested, rooms, slopes, some_counts, some_hires,
                           some_roads, some_rows, some_webs, triangle_web)
from tests.makings import some_families

GREAT = int("9" * 1000)
READERS = {"web": read_web, "hires": read_hires, "roads": read_roads, "rows": read_rows, "counts": read_counts}
WRITERS = {"web": web_text, "hires": hires_text, "roads": roads_text, "rows": rows_text, "counts": counts_text}


def many_worlds():
    """Return pairs of a word and a world of its class, full ones and empty ones among them."""
    pairs = [("web", web) for web in some_webs()] + [("hires", hires) for hires in some_hires()]
    pairs += [("roads", roads) for roads in some_roads()] + [("rows", rows) for rows in some_rows()]
    pairs += [("counts", counts) for counts in some_counts()]
    pairs += [("web", Web(NAMES[:16], {name: ("p", "a") for name in NAMES[:24]})),
              ("hires", Hires(NAMES[:24], {name: NAMES[:24] for name in NAMES[:24]})),
              ("roads", Roads(NAMES[:24], [(a, b) for a in NAMES[:24] for b in NAMES[:24] if a != b], NAMES[:24], NAMES[:24])),
              ("rows", Rows({name: [-GREAT, 0, GREAT] for name in NAMES[:24]}, over="whole")),
              ("rows", Rows({name: [1] * 24 for name in NAMES[:24]}, over="two")),
              ("counts", Counts(NAMES[:24], [(NAMES[:24], GREAT)] * 60)),
              ("web", Web(["a", "aa", "b"], {"xxxxxxxx": ("b", "aa"), "x": ("aa", "a")})),
              ("roads", Roads(["a", "aa", "b"], [("aa", "b"), ("a", "b"), ("b", "aa"), ("a", "aa")], ["b", "aa"], []))]
    return pairs


# What follows writes texts and finds wrong lines by the words of the document alone. A list of lines is the beginning of
# a text just if the object that they tell, read without care, has a text that begins with them.

def written_web(web):
    return ["web", " ".join(["places", *web.places()])] + [f"tie {tie} {a} {b}" for tie, (a, b) in sorted(web.ties().items())]


def written_hires(hires):
    return ["hires"] + [" ".join(["person", person, *hires.jobs_of(person)]) for person in hires.people()]


def written_roads(roads):
    steps = ["-".join(step) for step in roads.steps()]
    parts = [["places", *roads.places()], ["steps", *steps], ["doors", *roads.doors()], ["gates", *roads.gates()]]
    return ["roads"] + [" ".join(part) for part in parts]


def written_rows(rows):
    return [f"rows {rows.over()}"] + [" ".join(["row", thing, *map(str, rows.row(thing))]) for thing in rows.things()]


def written_counts(counts):
    return ["counts", " ".join(["things", *counts.things()])] + [" ".join(["room", str(number), *lot])
                                                                for lot, number in counts.rooms()]


WRITTEN = {"web": written_web, "hires": written_hires, "roads": written_roads, "rows": written_rows, "counts": written_counts}


def words_of(lines, at):
    return lines[at].split(" ")[1:] if at < len(lines) else []


def careless(word, lines):
    """Return the world that some first lines tell, with what is missing filled in; or raise any error."""
    rest = [line.split(" ") for line in lines[2:]]
    people = [line.split(" ") for line in lines[1:]]
    if word == "web":
        ties = {tie: (a, b) for _, tie, a, b in rest}
        assert len(ties) == len(rest)
        return Web(words_of(lines, 1) if len(lines) > 1 else ["a"], ties)
    if word == "hires":
        jobs = {person: own for _, person, *own in people}
        assert len(jobs) == len(people)
        return Hires(list(jobs), jobs)
    if word == "roads":
        places = words_of(lines, 1) if len(lines) > 1 else ["a"]
        steps = [tuple(step.split("-")) for step in words_of(lines, 2)]
        assert all(len(step) == 2 for step in steps)
        return Roads(places, steps, words_of(lines, 3), words_of(lines, 4))
    if word == "rows":
        table = {thing: [int(entry) for entry in row] for _, thing, *row in people}
        assert len(table) == len(people) and lines[0].split(" ")[1] in ("two", "whole")
        return Rows(table, over=lines[0].split(" ")[1])
    return Counts(words_of(lines, 1), [(lot, int(number)) for _, number, *lot in rest])


def is_beginning(word, lines):
    try:
        return WRITTEN[word](careless(word, lines))[:len(lines)] == lines
    except (ValueError, IndexError, AssertionError):
        return False


LEAST = {"web": 2, "hires": 1, "roads": 5, "rows": 1, "counts": 2}


def wrong_line(word, text):
    """Return the number that NoText is to tell about a string, or None if it is a text of a class."""
    lines = text.split("\n")
    for many in range(1, len(lines) + 1):
        if not is_beginning(word, lines[:many]):
            return many
    return None if len(lines) >= LEAST[word] else len(lines) + 1


def bent_texts(text, chance):
    """Yield strings that are bent at one place of a text."""
    lines = text.split("\n")
    for at, line in enumerate(lines):
        words = line.split(" ")
        changed = [line + " ", " " + line, line + "\t", line.replace(" ", "  ", 1), line.upper(), "", line[:-1], line + "x",
                   line + " a", line + " 1", line + " 0", " ".join(words[:-1]), " ".join(words[1:]), " ".join(words[::-1]),
                   " ".join([*words, words[-1]]), line.replace(words[0], words[0] + "s", 1)]
        for index in range(len(words)):
            for new in ("", "A", "a", "zz", "00", "01", "-0", "+1", "-1", "1_0", "2", "\u0661", "\u00e4", "abcdefghi", "a-a", "a-b",
                        "a-b-c", "-", "--1", "1.0", words[0], " "):
                changed.append(" ".join([*words[:index], new, *words[index + 1:]]))
            if index + 1 < len(words):
                changed.append(" ".join([*words[:index], words[index + 1], words[index], *words[index + 2:]]))
        for new in chance.sample(changed, min(len(changed), 12)):
            yield "\n".join([*lines[:at], new, *lines[at + 1:]])
        yield "\n".join([*lines[:at], *lines[at + 1:]])
        yield "\n".join([*lines[:at + 1], line, *lines[at + 1:]])
        yield "\n".join([*lines[:at], *lines[at:at + 2][::-1], *lines[at + 2:]])
        yield "\n".join(lines[:at + 1])
        yield "\r\n".join(lines[:at + 1])
    yield from (text + "\n", "\n" + text, text + "\nend", text + "\n\n", text.replace("\n", " "), text.replace("\n", "\x0b"))


class Reading(Telling):
    """Compares what a reader tells about a string with what it is to tell."""

    def assert_read(self, word, text):
        line = wrong_line(word, text)
        for reader in (READERS[word], read_world):
            if line is None:
                self.assertTrue(reader(text) == careless(word, text.split("\n")), text)
                continue
            try:
                told = reader(text)
            except NoText as error:
                self.assertEqual(error.line, line, (reader.__name__, text))
            else:
                self.fail(f"{text!r} was read as {told!r}")


class Point_15_1(unittest.TestCase):
    def test_reading_a_text_gives_an_equal_object(self):
        for word, world in many_worlds():
            text = WRITERS[word](world)
            self.assertEqual(world_text(world), text)
            self.assertTrue(READERS[word](text) == world)
            self.assertTrue(read_world(text) == world)
            self.assertEqual(READERS[word](text).__class__, world.__class__)

    def test_unequal_objects_have_unequal_texts(self):
        known = many_worlds()
        for word, world in known:
            for other_word, other in known:
                same = word == other_word and world == other
                self.assertIs(world_text(world) == world_text(other), same)

    def test_lines_and_words(self):
        for _, world in many_worlds():
            text = world_text(world)
            self.assertFalse(text.endswith("\n"))
            for line in text.split("\n"):
                self.assertEqual(line.split(), line.split(" "))

    def test_the_order_in_which_an_object_was_made_means_nothing(self):
        one = Web(["b", "a"], {"y": ("b", "a"), "x": ("a", "b")})
        self.assertEqual(web_text(one), web_text(Web(["a", "b"], {"x": ("b", "a"), "y": ("a", "b")})))
        one = Roads(["b", "a"], [("b", "a"), ("a", "b")], ["b", "a"], ["b", "a"])
        self.assertEqual(roads_text(one), roads_text(Roads(["a", "b"], [("a", "b"), ("b", "a")], ["a", "b"], ["a", "b"])))


class Point_15_2(unittest.TestCase):
    def test_texts_of_the_examples(self):
        self.assertEqual(web_text(Web(["a", "b"], {"x": ("b", "a"), "l": ("a", "a")})), "web\nplaces a b\ntie l a a\ntie x a b")
        self.assertEqual(hires_text(bakers()), "hires\nperson ann bake\nperson bob bake\nperson cat bake cook")
        self.assertEqual(roads_text(crossing()), "roads\nplaces a b c d\nsteps a-c b-c c-d\ndoors a b d\ngates d")
        self.assertEqual(rows_text(slopes()), "rows whole\nrow a 1 0\nrow b 0 1\nrow c 2 4")
        self.assertEqual(counts_text(rooms()), "counts\nthings a b c\nroom 1 a b\nroom 2 a b c")

    def test_empty_worlds(self):
        self.assertEqual(web_text(Web(["a"], {})), "web\nplaces a")
        self.assertEqual((hires_text(Hires([], {})), hires_text(Hires(["a"], {"a": []}))), ("hires", "hires\nperson a"))
        self.assertEqual(roads_text(Roads(["a"], [], [], [])), "roads\nplaces a\nsteps\ndoors\ngates")
        self.assertEqual(rows_text(Rows({}, over="two")), "rows two")
        self.assertEqual(rows_text(Rows({"b": [], "a": []}, over="whole")), "rows whole\nrow a\nrow b")
        self.assertEqual(counts_text(Counts([], [([], 0)])), "counts\nthings\nroom 0")
        self.assertEqual(counts_text(Counts(["a"], [(["a"], 5), ([], 1), (["a"], 0)])),
                         "counts\nthings a\nroom 5 a\nroom 1\nroom 0 a")

    def test_all_worlds(self):
        for word, world in many_worlds():
            lines = WRITTEN[word](world)
            self.assertEqual((WRITERS[word](world), world_text(world)), ("\n".join(lines), "\n".join(lines)))

    def test_great_and_negative_integers(self):
        rows = Rows({"a": [-10 ** 999, GREAT, -1, 0]}, over="whole")
        self.assertEqual(rows_text(rows), f"rows whole\nrow a -{10 ** 999} {GREAT} -1 0")


class Point_15_3(unittest.TestCase, Reading):
    def test_document_examples(self):
        self.raises(NoText(3), read_web, "web\nplaces a b\ntie x b a")
        self.raises(NoText(2), read_web, "web")

    def test_values_that_are_no_strings(self):
        for reader in [*READERS.values(), read_world, read_family, read_lot, read_weights]:
            for value in [*[odd for odd in ODD_VALUES if not isinstance(odd, str)], 1, ["web"], ("web",), b"web\nplaces a",
                          nested(list), nested(tuple)]:
                self.raises(NoText(0), reader, value)

    def test_wrong_first_lines(self):
        for word, reader in [*READERS.items(), ("world", read_world)]:
            for text in ("", "\n", "webs", "Web", " web", "web ", "rows", "rows three", "rows  two", "rows two whole", "family", "-",
                         "\nweb", "hires\r", "counts a"):
                self.raises(NoText(1), reader, text)
            for other, world in (("web", triangle_web()), ("hires", bakers()), ("roads", crossing()), ("rows", slopes()),
                                 ("counts", rooms())):
                if word not in (other, "world"):
                    self.raises(NoText(1), reader, world_text(world))

    def test_texts_that_end_too_early(self):
        for reader, text, line in ((read_web, "web", 2), (read_roads, "roads", 2), (read_roads, "roads\nplaces a", 3),
                                   (read_roads, "roads\nplaces a\nsteps", 4), (read_roads, "roads\nplaces a\nsteps\ndoors", 5),
                                   (read_counts, "counts", 2)):
            self.raises(NoText(line), reader, text)
            self.raises(NoText(line), read_world, text)
        for reader, text in ((read_hires, "hires"), (read_rows, "rows two"), (read_rows, "rows whole")):
            self.assertEqual(world_text(reader(text)), text)

    def test_a_line_feed_at_the_end(self):
        for word, world in many_worlds():
            text = world_text(world)
            self.raises(NoText(text.count("\n") + 2), READERS[word], text + "\n")
            self.raises(NoText(text.count("\n") + 2), read_world, text + "\nplaces a")

    def test_texts_bent_at_one_place(self):
        chance = Random(153)
        for word, world in many_worlds():
            text = world_text(world)
            if len(text) < 300:
                self.assert_read(word, text)
                for bent in bent_texts(text, chance):
                    self.assert_read(word, bent)

    def test_limits_of_webs(self):
        names = [chr(97 + at // 26) + chr(97 + at % 26) for at in range(30)]
        self.raises(NoText(2), read_web, "web\nplaces " + " ".join(names[:17]))
        self.raises(NoText(2), read_web, "web\nplaces")
        head = "web\nplaces " + " ".join(names[:16])
        ties = [f"tie {name} aa ab" for name in names]
        self.assertEqual(len(read_web("\n".join([head, *ties[:24]])).ties()), 24)
        self.raises(NoText(27), read_web, "\n".join([head, *ties[:25]]))
        self.raises(NoText(27), read_web, "\n".join([head, *ties[:24], "nothing", "at all"]))

    def test_limits_of_hires(self):
        names = [chr(97 + at // 26) + chr(97 + at % 26) for at in range(30)]
        lines = [f"person {name}" for name in names]
        self.assertEqual(len(read_hires("\n".join(["hires", *lines[:24]])).people()), 24)
        self.raises(NoText(26), read_hires, "\n".join(["hires", *lines[:25]]))
        self.assertEqual(read_hires("hires\nperson a " + " ".join(names[:24])).jobs_of("a"), names[:24])
        self.raises(NoText(2), read_hires, "hires\nperson a " + " ".join(names[:25]))
        self.raises(NoText(2), read_hires, "hires\nperson")

    def test_limits_of_roads(self):
        names = [chr(97 + at // 26) + chr(97 + at % 26) for at in range(30)]
        text = "roads\nplaces {}\nsteps\ndoors\ngates"
        self.assertEqual(read_roads(text.format(" ".join(names[:24]))).places(), names[:24])
        self.raises(NoText(2), read_roads, text.format(" ".join(names[:25])))
        self.raises(NoText(2), read_roads, "roads\nplaces\nsteps\ndoors\ngates")
        self.raises(NoText(6), read_roads, text.format("a") + "\ngates")
        for steps in ("a-a", "a-c", "c-a", "b-a a-b", "a-b a-b", "a-", "-b", "ab", "a-b-a", "a--b", "-"):
            self.raises(NoText(3), read_roads, f"roads\nplaces a b\nsteps {steps}\ndoors\ngates")

    def test_limits_of_rows(self):
        names = [chr(97 + at // 26) + chr(97 + at % 26) for at in range(30)]
        self.assertEqual(len(read_rows("\n".join(["rows two"] + [f"row {name} 1" for name in names[:24]])).things()), 24)
        self.raises(NoText(26), read_rows, "\n".join(["rows two"] + [f"row {name} 1" for name in names[:25]]))
        self.assertEqual(read_rows("rows whole\nrow a" + " 7" * 24).width(), 24)
        self.raises(NoText(2), read_rows, "rows whole\nrow a" + " 7" * 25)
        self.raises(NoText(3), read_rows, "rows whole\nrow a 1 2\nrow b 1")
        self.raises(NoText(3), read_rows, "rows whole\nrow a\nrow b 1")
        self.raises(NoText(3), read_rows, "rows whole\nrow a 1\nrow b")
        for entry in ("2", "-1", "10", "00", "01", "+1", ""):
            self.raises(NoText(2), read_rows, f"rows two\nrow a 1 {entry}")

    def test_limits_of_counts(self):
        names = [chr(97 + at // 26) + chr(97 + at % 26) for at in range(30)]
        self.assertEqual(read_counts("counts\nthings " + " ".join(names[:24])).things(), names[:24])
        self.raises(NoText(2), read_counts, "counts\nthings " + " ".join(names[:25]))
        self.assertEqual(len(read_counts("counts\nthings" + "\nroom 1" * 60).rooms()), 60)
        self.raises(NoText(63), read_counts, "counts\nthings" + "\nroom 1" * 61)
        head = "counts\nthings a b c\nroom 1 a b\nroom 1 c\n"
        self.raises(NoText(5), read_counts, head + "room 1 b c")
        self.raises(NoText(6), read_counts, head + "room 0\nroom 2 a c\nroom")
        for line in ("room", "room -1 a", "room a", "room 01 a", "room 1 a a", "room 1 b a", "room 1 d", "room 1 ", "room  1"):
            self.raises(NoText(5), read_counts, head + line)

    def test_great_integers(self):
        for integer in (GREAT, -GREAT, 10 ** 60, -10 ** 60, 10 ** 59, 10 ** 61 - 1, 10 ** 120):
            self.assertEqual(read_rows(f"rows whole\nrow a {integer} 1").row("a"), [integer, 1])
        self.assertEqual(read_counts(f"counts\nthings\nroom {GREAT}").rooms(), [([], GREAT)])
        # Python itself reads and writes no more than 4300 digits at once.
        long = sum(123456789 * 10 ** (9 * at) for at in range(700))
        self.assertEqual(read_rows("rows whole\nrow a -" + "123456789" * 700).row("a"), [-long])
        self.raises(NoText(2), read_rows, "rows whole\nrow a " + "0" * 6000)
        self.raises(NoText(2), read_rows, "rows whole\nrow a " + "9" * 6000 + "x")


def family_line(text):
    """Return the number that NoText is to tell about a string as a family, or None."""
    lines = text.split("\n")
    things, ahead = [], None
    for number, line in enumerate(lines, 1):
        head, *words = line.split(" ")
        if head != ["family", "things", "base"][min(number, 3) - 1] or words != sorted(set(words)):
            return number
        if number == 1 and words:
            return number
        if number == 2:
            things = words
            if len(words) > 10 or not all(word.isascii() and word.isalpha() and word.islower() and len(word) < 9 for word in words):
                return number
        if number > 2:
            if set(words) - set(things) or (ahead is not None and words <= ahead):
                return number
            ahead = words
    return None if len(lines) > 2 else len(lines) + 1


class Point_15_4(unittest.TestCase, Reading):
    def test_families_of_few_things(self):
        for family, searched in some_families():
            text = family_text(family)
            lines = ["family", " ".join(["things", *searched.things])] + [" ".join(["base", *base]) for base in searched.bases()]
            self.assertEqual(text, "\n".join(lines))
            self.assertIsInstance(read_family(text), Family)
            self.assertIsNone(alike(read_family(text), family))

    def test_edges(self):
        self.assertEqual(family_text(free_on([])), "family\nthings\nbase")
        self.assertEqual(family_text(even(2, 0)), "family\nthings a b\nbase")
        self.assertEqual(bases(read_family("family\nthings a b\nbase")), [[]])
        self.assertEqual(len(family_text(cut_short(free_on(NAMES[:10]), 5)).split("\n")), 254)
        self.assertIsNone(alike(read_family(family_text(even(10, 5))), even(10, 5)))
        for many in (11, 12, 24):
            self.raises(TooMany(10), family_text, even(many, 2))

    def test_bent_texts(self):
        chance = Random(154)
        for family, _ in some_families():
            text = family_text(family)
            if len(text) < 200:
                for bent in bent_texts(text, chance):
                    self.assert_family(bent)

    def assert_family(self, text):
        line = family_line(text)
        if line is not None:
            self.raises(NoText(line), read_family, text)
            return
        things, *lots = [row.split(" ")[1:] for row in text.split("\n")[1:]]
        try:
            right = listed(things, lots)
        except LotError as error:
            self.raises(error, read_family, text)
        else:
            self.assertIsNone(alike(read_family(text), right))

    def test_wrong_lines(self):
        for text, line in (("", 1), ("family", 2), ("family ", 1), ("families", 1), ("family\n", 2), ("family\nthings", 3),
                           ("family\nthings ", 2), ("family\nthings b a", 2), ("family\nthings a a", 2), ("family\nthings A", 2),
                           ("family\nthings a b c d e f g h i j k", 2), ("family\nthings a\nbase a\n", 4),
                           ("family\nthings a\nbase b", 3), ("family\nthings a b\nbase b a", 3),
                           ("family\nthings a b\nbase b\nbase a", 4), ("family\nthings a b\nbase a\nbase a", 4),
                           ("family\nthings a b\nbase a\nbase", 4), ("family\nthings a b\nthings a b", 3)):
            self.raises(NoText(line), read_family, text)

    def test_broken_bases(self):
        text = "family\nthings a b c d\nbase a b\nbase c d"
        self.raises(BrokenBases(["a", "b"], ["c", "d"], "a"), read_family, text)
        self.raises(NoText(5), read_family, text + "\nbase d c")
        self.raises(BrokenBases(["a"], [], "a"), read_family, "family\nthings a\nbase\nbase a")


class Point_15_5(unittest.TestCase, Telling):
    def test_lots(self):
        for lot, text in (([], "-"), (["a"], "a"), (["b", "a"], "a b"), (["b", "aa", "a"], "a aa b"), (["abcdefgh"], "abcdefgh")):
            self.assertEqual((lot_text(lot), read_lot(text)), (text, sorted(lot)))
        many = [one + other for one in NAMES for other in NAMES]
        self.assertEqual(read_lot(lot_text(many[::-1])), many)

    def test_lots_that_have_no_text(self):
        for name in ("", "A", "abcdefghi", "a1", "-", "a b", "a\n", "\u00e4"):
            self.raises(BadThings(1), lot_text, ["b", name, "b"])
        self.raises(BadThings(2), lot_text, ["b", "a", "b", ""])

    def test_strings_that_are_no_lots(self):
        for text in ("", " ", "a ", " a", "a  b", "b a", "a a", "A", "- ", "-a", "a -", "- a", "--", "a\n", "a\nb", "abcdefghi", "a\tb",
                     "1", "a,b", "\u00e4"):
            self.raises(NoText(1), read_lot, text)

    def test_weights(self):
        for weights, text in (({}, "-"), ({"b": -3, "a": 10}, "a=10 b=-3"), ({"b": 0, "aa": 1, "a": GREAT}, f"a={GREAT} aa=1 b=0"),
                              ({"a": -GREAT}, f"a=-{GREAT}")):
            self.assertEqual((weights_text(weights), read_weights(text)), (text, weights))
        many = {one + other: at - 300 for at, (one, other) in enumerate((one, other) for one in NAMES for other in NAMES)}
        self.assertEqual(read_weights(weights_text(many)), many)

    def test_weights_that_have_no_text(self):
        for name in ("", "A", "abcdefghi", "a1", "-", "a b", "a\n", "\u00e4"):
            self.raises(BadWeights(name), weights_text, {name: 1})
        for value in [*ODD_VALUES, "1", [1], (1,), nested(list), nested(tuple)]:
            self.raises(BadWeights("b"), weights_text, {"c": None, "b": value, "a": 1})
        self.raises(BadWeights("A"), weights_text, {"a": None, "A": 1})

    def test_strings_that_are_no_weights(self):
        for text in ("", " ", "a", "a=", "=1", "a=1 ", " a=1", "a=1  b=2", "b=1 a=2", "a=1 a=1", "a=1 a=2", "A=1", "a=01", "a=-0", "a=+1",
                     "a=1.0", "a=--1", "a=-", "a==1", "a=1=1", "a =1", "a= 1", "a=1\n", "a=1\nb=2", "a=1,b=2", "a=\u0661", "a=1_0",
                     "abcdefghi=1", "--", "- ", "a=True", "a:1", "- a=1"):
            self.raises(NoText(1), read_weights, text)

    def test_values_that_are_no_strings(self):
        for value in [*[odd for odd in ODD_VALUES if not isinstance(odd, str)], 1, ["a"], ("a",), nested(list), nested(tuple)]:
            self.raises(NoText(0), read_lot, value)
            self.raises(NoText(0), read_weights, value)


if __name__ == "__main__":
    unittest.main()
