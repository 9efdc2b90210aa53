"""Families that are made out of other families: turned, cut down, drawn in, joined, cut short and named."""

from bothfree.checks import MOST_THINGS, check_number, is_name, sorted_things
from bothfree.errors import BadNames, SameThing, TooMany
from bothfree.families import Family, ring_of
from bothfree.rows import Rows
from bothfree.rules import Chart, CutRule, FreeRule, JoinedRule, PartRule, TurnedRule
from bothfree.webs import ties_family


def turned(family):
    """Return the family in which a lot is free if the rest of the things has the rank of all things."""
    return Family(family.things(), TurnedRule(family))


def inside(family, lot):
    """Return the family of the things of a lot alone."""
    return _part_of(family, family.lot_of(family.mask_of(lot)), 0)


def without(family, lot):
    """Return the family of all things that are not in a lot."""
    return _part_of(family, _rest_of(family, lot), 0)


def drawn_in(family, lot):
    """Return the family of all things that are not in a lot, ranked by what they add to the rank of the lot."""
    return _part_of(family, _rest_of(family, lot), family.mask_of(lot))


def _rest_of(family, lot):
    """Return the things of a family that are not in a lot."""
    return family.lot_of(family.full_mask() - family.mask_of(lot))


def _part_of(family, things, drawn):
    """Return the family of some things of a family, with the things of a mask drawn in."""
    return Family(things, PartRule(family, _chart_of(things, family, {}), len(things), drawn))


def _chart_of(things, family, names):
    """Return the chart from the things of a family, which have new names perhaps, to those among some sorted things."""
    own = {thing: at for at, thing in enumerate(things)}
    pairs = []
    for at, thing in enumerate(family.things()):
        name = names.get(thing, thing)
        if name in own:
            pairs.append((own[name], at))
    return Chart(pairs)


def joined(one, other):
    """Return the family of the things of two families, in which a lot is free if its things of each are free there."""
    for thing in one.things():
        if thing in other:
            raise SameThing(thing)
    things = sorted(one.things() + other.things())
    if len(things) > MOST_THINGS:
        raise TooMany(MOST_THINGS)
    return Family(things, JoinedRule(one, _chart_of(things, one, {}), other, _chart_of(things, other, {})))


def cut_short(family, k):
    """Return the family in which those free lots are free that have at most k things."""
    check_number(k)
    return Family(family.things(), CutRule(family, k))


def free_on(things):
    """Return the family of these things in which all lots are free."""
    names = sorted_things(things, MOST_THINGS)
    return Family(names, FreeRule(len(names)))


def named(family, names):
    """Return the family in which the things have new names."""
    _check_names(family, names)
    things = sorted(names.values())
    return Family(things, PartRule(family, _chart_of(things, family, names), len(things), 0))


def _check_names(family, names):
    """Raise BadNames unless names give each thing of a family, and nothing else, a name of its own."""
    seen = set()
    for thing in sorted(set(names) | set(family.things())):
        if thing not in family or thing not in names or not is_name(names[thing]) or names[thing] in seen:
            raise BadNames(thing)
        seen.add(names[thing])


def web_rows(web):
    """Return the rows over two of the ties of a web, which have 1 at their two ends."""
    ties = web.ties()
    table = {tie: [int((place == ties[tie][0]) != (place == ties[tie][1])) for place in web.places()] for tie in ties}
    return Rows(table, over="two")


def ring_rows(web):
    """Return the rows over two of the ties of a web, which have 1 for the rings with the first base in which they are.

    There is a ring for each tie outside of the first base.
    """
    family = ties_family(web)
    base = family.base()
    found = [ring_of(family, base, tie) for tie in family.things() if tie not in base] or [[]]
    return Rows({tie: [int(tie in ring) for ring in found] for tie in family.things()}, over="two")
