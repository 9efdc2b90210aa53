"""Families that are made out of other families, with the same ones by plain search."""

from random import Random

from bothfree.many import union
from bothfree.one import all_heaviest
from bothfree.turns import cut_short, drawn_in, free_on, inside, joined, named, turned, without
from tests.helpers import NAMES, Searched, lots_of, searched_heaviest, world_families


def rest_of(things, lot):
    return [thing for thing in things if thing not in lot]


def searched_turned(searched):
    bases = [set(base) for base in searched.bases()]
    return Searched(searched.things, lambda lot: any(not base & set(lot) for base in bases))


def searched_inside(searched, lot):
    return Searched(lot, searched.is_free)


def searched_without(searched, lot):
    return Searched(rest_of(searched.things, lot), searched.is_free)


def searched_drawn_in(searched, lot):
    before = searched.rank(lot)
    return Searched(rest_of(searched.things, lot), lambda part: searched.rank([*part, *lot]) - before == len(part))


def searched_joined(one, other):
    return Searched(one.things + other.things,
                    lambda lot: all(side.is_free(set(lot) & set(side.things)) for side in (one, other)))


def searched_cut(searched, k):
    return Searched(searched.things, lambda lot: len(lot) <= k and searched.is_free(lot))


def searched_named(searched, names):
    old = {name: thing for thing, name in names.items()}
    return Searched(names.values(), lambda lot: searched.is_free([old[name] for name in lot]))


def searched_union(several):
    """Return the family of all lots that come of putting free lots together, one of each family."""
    known = {()}
    for searched in several:
        known = {tuple(sorted(set(lot) | set(free))) for lot in known for free in searched.free}
    return Searched(several[0].things, lambda lot: tuple(lot) in known)


def shuffled_names(things, names, chance):
    return dict(zip(things, chance.sample(names, len(things))))


def renamed(pair, things, chance):
    """Return a pair of a family and the same one by plain search with other names."""
    family, searched = pair
    names = shuffled_names(family.things(), things, chance)
    return named(family, names), searched_named(searched, names)


def made_once(pair, others, kind, chance):
    """Return a pair that is made out of another one, in a way that the kind tells, perhaps with one of the others."""
    family, searched = pair
    things = family.things()
    lot = chance.sample(things, chance.randint(0, min(2, len(things))))
    same = [other for other in others if len(other[0]) == len(things)]
    few = [other for other in others if len(other[0]) + len(things) <= 6] or [(free_on([]), Searched([], bool))]
    if kind == "turned":
        return turned(family), searched_turned(searched)
    if kind == "inside":
        return inside(family, rest_of(things, lot)[::-1]), searched_inside(searched, rest_of(things, lot))
    if kind == "without":
        return without(family, lot), searched_without(searched, lot)
    if kind == "drawn_in":
        return drawn_in(family, lot), searched_drawn_in(searched, lot)
    if kind == "joined":
        other = renamed(chance.choice(few), rest_of(NAMES, things), chance)
        return joined(family, other[0]), searched_joined(searched, other[1])
    if kind == "cut_short":
        k = chance.randint(0, 4)
        return cut_short(family, k), searched_cut(searched, k)
    if kind == "named":
        return renamed(pair, NAMES, chance)
    if kind == "all_heaviest":
        weights = {thing: chance.randint(-1, 1) for thing in things}
        return all_heaviest(family, weights), searched_heaviest(searched, weights)
    several = [pair] + [renamed(chance.choice(same), things, chance) for _ in range(chance.randint(0, 3)) if same]
    return union([one for one, _ in several]), searched_union([one for _, one in several])


KINDS = ["turned", "inside", "without", "drawn_in", "joined", "cut_short", "named", "all_heaviest", "union"]


def made_families(worlds):
    """Return pairs that are made out of those of worlds: by one making of each kind, and by several."""
    chance = Random(17)
    middle = [pair for pair in worlds if 3 <= len(pair[0]) <= 5]
    pairs = [made_once(chance.choice(middle), worlds, kind, chance) for kind in KINDS for _ in range(4)]
    # Without things, too.
    pairs += [made_once(worlds[0], worlds[:1], kind, chance) for kind in KINDS]
    for _ in range(20):
        pair = chance.choice(middle)
        for _ in range(chance.randint(2, 7)):
            pair = made_once(pair, worlds, chance.choice(KINDS), chance)
        pairs.append(pair)
    return pairs


def some_families():
    """Return pairs of a family and the same one by plain search, of all kinds."""
    worlds = world_families()
    return worlds + made_families(worlds)


def pairs_of_families(many):
    """Return many pairs of pairs: of families with the same things, each with the same one by plain search."""
    chance = Random(18)
    known = some_families()
    found = []
    while len(found) < many:
        one = chance.choice(known)
        same = [pair for pair in known if len(pair[0]) == len(one[0])]
        # The things of the other one are not in the same order.
        found.append((one, renamed(chance.choice(same), one[0].things(), chance)))
    return found


def common_lots(searched, second):
    """Return the lots that are free in both of two families by plain search, those with fewer things first."""
    return [lot for lot in lots_of(searched.things) if searched.is_free(lot) and second.is_free(lot)]
