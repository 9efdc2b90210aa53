"""Texts of worlds, families of few things, lots and weights, and the way back from a text."""

from bothfree.checks import MOST_THINGS, first_wrong, is_integer, is_name
from bothfree.counts import MOST_ROOMS, Counts, are_crossed
from bothfree.errors import BadThings, BadWeights, NoText, TooMany
from bothfree.families import MOST_LISTED, bases, listed
from bothfree.hires import MOST_JOBS, MOST_PEOPLE, Hires
from bothfree.lines import Lines, are_names, are_some, integer_of, is_decimal, is_number
from bothfree.roads import MOST_ROAD_PLACES, Roads
from bothfree.rows import GREATEST_WIDTH, Rows
from bothfree.webs import MOST_TIES, MOST_WEB_PLACES, Web


def _text_of(lines):
    """Return the text of lines, each of which is told as a list of words."""
    return "\n".join([" ".join(words) for words in lines])


def web_text(web):
    """Return the text of a web."""
    ties = web.ties()
    return _text_of([["web"], ["places", *web.places()]] + [["tie", tie, *ties[tie]] for tie in sorted(ties)])


def hires_text(hires):
    """Return the text of a hires."""
    return _text_of([["hires"]] + [["person", person, *hires.jobs_of(person)] for person in hires.people()])


def roads_text(roads):
    """Return the text of a roads."""
    steps = [f"{one}-{other}" for one, other in roads.steps()]
    return _text_of([["roads"], ["places", *roads.places()], ["steps", *steps], ["doors", *roads.doors()],
                     ["gates", *roads.gates()]])


def rows_text(rows):
    """Return the text of a rows."""
    lines = [["row", thing] + [str(entry) for entry in rows.row(thing)] for thing in rows.things()]
    return _text_of([["rows", rows.over()]] + lines)


def counts_text(counts):
    """Return the text of a counts."""
    lines = [["room", str(number), *lot] for lot, number in counts.rooms()]
    return _text_of([["counts"], ["things", *counts.things()]] + lines)


def world_text(world):
    """Return the text of a world of any class."""
    if isinstance(world, Web):
        return web_text(world)
    if isinstance(world, Hires):
        return hires_text(world)
    if isinstance(world, Roads):
        return roads_text(world)
    return rows_text(world) if isinstance(world, Rows) else counts_text(world)


def read_web(text):
    """Return the web of which a value of any kind is the text."""
    lines = Lines(text)
    lines.check(lines.words() == ["web"])
    places = lines.words_behind("places")
    lines.check(are_names(places) and 1 <= len(places) <= MOST_WEB_PLACES)
    ties = {}
    ahead = ""
    while lines.more():
        words = lines.words_behind("tie")
        lines.check(len(words) == 3 and len(ties) < MOST_TIES)
        tie, one, other = words
        lines.check(is_name(tie) and tie > ahead and one in places and other in places and one <= other)
        ties[tie] = (one, other)
        ahead = tie
    return Web(places, ties)


def read_hires(text):
    """Return the hires of which a value of any kind is the text."""
    lines = Lines(text)
    lines.check(lines.words() == ["hires"])
    jobs = {}
    while lines.more():
        words = lines.words_behind("person")
        lines.check(are_names(list(jobs) + words[:1]) and 0 < len(words) <= MOST_JOBS + 1 and len(jobs) < MOST_PEOPLE)
        lines.check(are_names(words[1:]))
        jobs[words[0]] = words[1:]
    return Hires(list(jobs), jobs)


def read_roads(text):
    """Return the roads of which a value of any kind is the text."""
    lines = Lines(text)
    lines.check(lines.words() == ["roads"])
    places = lines.words_behind("places")
    lines.check(are_names(places) and 1 <= len(places) <= MOST_ROAD_PLACES)
    steps = [word.split("-") for word in lines.words_behind("steps")]
    lines.check(all([len(step) == 2 and step[0] in places and step[1] in places for step in steps]))
    lines.check(all([one != other for one, other in steps]))
    lines.check(all([one < other for one, other in zip(steps, steps[1:])]))
    doors = lines.words_behind("doors")
    lines.check(are_some(doors, places))
    gates = lines.words_behind("gates")
    lines.check(are_some(gates, places))
    lines.close()
    return Roads(places, [(one, other) for one, other in steps], doors, gates)


def read_rows(text):
    """Return the rows of which a value of any kind is the text."""
    lines = Lines(text)
    words = lines.words()
    lines.check(words in (["rows", "two"], ["rows", "whole"]))
    over = words[1]
    table = {}
    width = None
    while lines.more():
        words = lines.words_behind("row")
        lines.check(are_names(list(table) + words[:1]) and words != [] and len(table) < MOST_THINGS)
        entries = words[1:]
        lines.check(len(entries) <= GREATEST_WIDTH and width in (None, len(entries)))
        lines.check(all([word in ("0", "1") if over == "two" else is_decimal(word) for word in entries]))
        table[words[0]] = [integer_of(word) for word in entries]
        width = len(entries)
    return Rows(table, over=over)


def read_counts(text):
    """Return the counts of which a value of any kind is the text."""
    lines = Lines(text)
    lines.check(lines.words() == ["counts"])
    things = lines.words_behind("things")
    lines.check(are_names(things) and len(things) <= MOST_THINGS)
    rooms = []
    while lines.more():
        words = lines.words_behind("room")
        lines.check(words != [] and is_number(words[0]) and are_some(words[1:], things) and len(rooms) < MOST_ROOMS)
        lines.check(not any([are_crossed(lot, words[1:]) for lot, _ in rooms]))
        rooms.append((words[1:], integer_of(words[0])))
    return Counts(things, rooms)


# By the first line of a text.
READERS = {"web": read_web, "hires": read_hires, "roads": read_roads, "rows two": read_rows, "rows whole": read_rows,
           "counts": read_counts}


def read_world(text):
    """Return the world of which a value of any kind is the text."""
    lines = Lines(text)
    head = " ".join(lines.words())
    lines.check(head in READERS)
    reader = READERS[head]
    return reader(text)


def family_text(family):
    """Return the text of a family of few things, by its bases."""
    if len(family) > MOST_LISTED:
        raise TooMany(MOST_LISTED)
    return _text_of([["family"], ["things", *family.things()]] + [["base", *base] for base in bases(family)])


def read_family(text):
    """Return the family of which a value of any kind is the text."""
    lines = Lines(text)
    lines.check(lines.words() == ["family"])
    things = lines.words_behind("things")
    lines.check(are_names(things) and len(things) <= MOST_LISTED)
    lots = [_base_in(lines, things)]
    while lines.more():
        lot = _base_in(lines, things)
        lines.check(lot > lots[-1])
        lots.append(lot)
    return listed(things, lots)


def _base_in(lines, things):
    """Return the lot of these things that the next line tells as a base."""
    lot = lines.words_behind("base")
    lines.check(are_some(lot, things))
    return lot


def _words_or_none(words):
    """Return the line of words, or a sign for none."""
    return " ".join(words) if words else "-"


def lot_text(lot):
    """Return the text of a list of different names."""
    wrong = first_wrong(lot, is_name)
    if wrong is not None:
        raise BadThings(wrong)
    return _words_or_none(sorted(lot))


def weights_text(weights):
    """Return the text of a dict from names to integers."""
    for thing in sorted(weights):
        if not is_name(thing) or not is_integer(weights[thing]):
            raise BadWeights(thing)
    return _words_or_none([f"{thing}={weights[thing]}" for thing in sorted(weights)])


def _words_in(text):
    """Return the words of which a value of any kind is the only line, none of a sign for none."""
    if not isinstance(text, str):
        raise NoText(0)
    return [] if text == "-" else text.split(" ")


def read_lot(text):
    """Return the sorted list of names of which a value of any kind is the text."""
    words = _words_in(text)
    if not are_names(words):
        raise NoText(1)
    return words


def read_weights(text):
    """Return the dict from names to integers of which a value of any kind is the text."""
    pairs = [word.split("=") for word in _words_in(text)]
    if not are_names([pair[0] for pair in pairs]):
        raise NoText(1)
    if not all([len(pair) == 2 and is_decimal(pair[1]) for pair in pairs]):
        raise NoText(1)
    return {thing: integer_of(word) for thing, word in pairs}
