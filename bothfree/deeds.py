"""Deeds, which make new worlds out of a world: one function for each word, and the tables that find them."""

from bothfree.checks import MOST_THINGS, first_wrong, is_integer, is_name
from bothfree.counts import MOST_ROOMS, Counts
from bothfree.errors import (BadDeed, BadDoors, BadGates, BadJobs, BadNumber, BadRooms, BadRows, BadSteps, BadThings,
                             BadTies, NoThing)
from bothfree.hires import MOST_JOBS, Hires
from bothfree.roads import Roads
from bothfree.rows import Rows, is_row
from bothfree.webs import Web


def _rest_of(entries, gone):
    """Return the entries that do not equal one that is gone."""
    return [entry for entry in entries if entry != gone]


def _web_place(web, place):
    """Put in one more place."""
    return Web(web.places() + [place], web.ties())


def _web_tie(web, tie, a, b):
    """Put in a tie, or give it other ends."""
    if not is_name(tie):
        raise BadTies(tie)
    return Web(web.places(), {**web.ties(), tie: (a, b)})


def _web_untie(web, tie):
    """Take a tie out."""
    ties = web.ties()
    if tie not in list(ties):
        raise NoThing(tie)
    return Web(web.places(), {other: ties[other] for other in ties if other != tie})


def _all_jobs(hires):
    """Return the dict from all people to their jobs."""
    return {person: hires.jobs_of(person) for person in hires.people()}


def _hires_jobs(hires, person, jobs):
    """Give a person just these jobs."""
    if not is_name(person) or not isinstance(jobs, list) or len(jobs) > MOST_JOBS:
        raise BadJobs(person)
    if first_wrong(jobs, is_name) is not None:
        raise BadJobs(person)
    told = {**_all_jobs(hires), person: jobs}
    return Hires(list(told), told)


def _hires_leave(hires, person):
    """Let a person go."""
    if person not in hires.people():
        raise NoThing(person)
    told = _all_jobs(hires)
    del told[person]
    return Hires(list(told), told)


def _hires_close(hires, job):
    """Take a job from all people."""
    told = _all_jobs(hires)
    if not any([job in jobs for jobs in told.values()]):
        raise NoThing(job)
    return Hires(list(told), {person: _rest_of(told[person], job) for person in told})


def _roads_place(roads, place):
    """Put in one more place."""
    return Roads(roads.places() + [place], roads.steps(), roads.doors(), roads.gates())


def _roads_step(roads, a, b):
    """Put in one more step."""
    return Roads(roads.places(), roads.steps() + [(a, b)], roads.doors(), roads.gates())


def _roads_unstep(roads, a, b):
    """Take a step out."""
    if (a, b) not in roads.steps():
        raise BadSteps(-1)
    return Roads(roads.places(), _rest_of(roads.steps(), (a, b)), roads.doors(), roads.gates())


def _roads_door(roads, place):
    """Make a place a door, too."""
    return Roads(roads.places(), roads.steps(), roads.doors() + [place], roads.gates())


def _roads_gate(roads, place):
    """Make a place a gate, too."""
    return Roads(roads.places(), roads.steps(), roads.doors(), roads.gates() + [place])


def _roads_undoor(roads, place):
    """Make a place a door no more."""
    if place not in roads.doors():
        raise BadDoors(-1)
    return Roads(roads.places(), roads.steps(), _rest_of(roads.doors(), place), roads.gates())


def _roads_ungate(roads, place):
    """Make a place a gate no more."""
    if place not in roads.gates():
        raise BadGates(-1)
    return Roads(roads.places(), roads.steps(), roads.doors(), _rest_of(roads.gates(), place))


def _rows_row(rows, thing, row):
    """Give a thing this row."""
    if not is_name(thing) or not is_row(row, rows.over()):
        raise BadRows(thing)
    others = _rest_of(rows.things(), thing)
    if others and len(row) != rows.width():
        raise BadRows(thing)
    return Rows({**rows.rows(), thing: row}, over=rows.over())


def _rows_strike(rows, thing):
    """Take a thing out."""
    if thing not in rows.things():
        raise NoThing(thing)
    told = rows.rows()
    del told[thing]
    return Rows(told, over=rows.over())


def _rows_mix(rows, i, j, factor):
    """Let the integer at one index grow by a factor times that at another one, in each row."""
    indexes = list(range(rows.width()))
    for index, allowed in ((i, indexes), (j, _rest_of(indexes, i))):
        if not is_integer(index) or index not in allowed:
            raise BadNumber(index)
    if not is_integer(factor):
        raise BadNumber(factor)
    told = rows.rows()
    return Rows({thing: _mixed(told[thing], rows.over(), i, j, factor) for thing in told}, over=rows.over())


def _mixed(row, over, i, j, factor):
    """Return a row with another integer at the index i."""
    new = row[i] + factor * row[j]
    return row[:i] + [new & 1 if over == "two" else new] + row[i + 1:]


def _counts_thing(counts, thing):
    """Put in one more thing, in no room."""
    things = counts.things()
    if len(things) >= MOST_THINGS or not is_name(thing) or thing in things:
        raise BadThings(len(things))
    return Counts(things + [thing], counts.rooms())


def _counts_strike(counts, thing):
    """Take a thing out, also out of the rooms."""
    if thing not in counts.things():
        raise NoThing(thing)
    return Counts(_rest_of(counts.things(), thing), [(_rest_of(lot, thing), number) for lot, number in counts.rooms()])


def _counts_room(counts, lot, number):
    """Put in one more room behind the others."""
    rooms = counts.rooms()
    if len(rooms) >= MOST_ROOMS:
        raise BadRooms(len(rooms))
    return Counts(counts.things(), rooms + [(lot, number)])


def _counts_unroom(counts, index):
    """Take the room at an index out."""
    rooms = counts.rooms()
    if not is_integer(index) or not 0 <= index < len(rooms):
        raise BadNumber(index)
    return Counts(counts.things(), rooms[:index] + rooms[index + 1:])


# Behind each word stand its function and the number of its arguments.
WEB_DEEDS = {"place": (_web_place, 1), "tie": (_web_tie, 3), "untie": (_web_untie, 1)}
HIRES_DEEDS = {"jobs": (_hires_jobs, 2), "leave": (_hires_leave, 1), "close": (_hires_close, 1)}
ROADS_DEEDS = {"place": (_roads_place, 1), "step": (_roads_step, 2), "unstep": (_roads_unstep, 2),
               "door": (_roads_door, 1), "gate": (_roads_gate, 1), "undoor": (_roads_undoor, 1),
               "ungate": (_roads_ungate, 1)}
ROWS_DEEDS = {"row": (_rows_row, 2), "strike": (_rows_strike, 1), "mix": (_rows_mix, 3)}
COUNTS_DEEDS = {"thing": (_counts_thing, 1), "strike": (_counts_strike, 1), "room": (_counts_room, 2),
                "unroom": (_counts_unroom, 1)}


def _found(world, word):
    """Return the function of a word and the number of its arguments, for the class of a world, or None."""
    if isinstance(world, Web):
        return WEB_DEEDS.get(word)
    if isinstance(world, Hires):
        return HIRES_DEEDS.get(word)
    if isinstance(world, Roads):
        return ROADS_DEEDS.get(word)
    return ROWS_DEEDS.get(word) if isinstance(world, Rows) else COUNTS_DEEDS.get(word)


def world_behind(world, deed):
    """Return the new world that a deed makes of a world; raise BadDeed unless a value of any kind is a deed."""
    if not isinstance(deed, tuple) or not deed or not isinstance(deed[0], str):
        raise BadDeed()
    found = _found(world, deed[0])
    if found is None or len(deed) != found[1] + 1:
        raise BadDeed()
    action = found[0]
    _, *arguments = deed
    return action(world, *arguments)
