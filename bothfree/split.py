"""Heaviest lots that are free in both of two families, and weights split in two that show that none is heavier."""

from bothfree.checks import check_number, check_weights, is_integer, is_lot
from bothfree.steps import Steps, changed, check_like, way_to
from bothfree.masks import bits_of, outer_bits


def heaviest_both(one, other, weights, k):
    """Return the weight of a heaviest lot of k things that is free in both families, and this lot, or None."""
    _check(one, other, weights)
    check_number(k)
    masks = _heaviest_masks(one, other, weights, k)
    return None if len(masks) <= k else _told(one, weights, masks[k])


def _check(one, other, weights):
    """Raise an error unless the families have the same things, and these the weights."""
    check_like(one, other)
    check_weights(weights, one.things())


def _told(one, weights, mask):
    """Return the weight of a mask and its lot."""
    lot = one.lot_of(mask)
    return sum([weights[thing] for thing in lot]), lot


def _heaviest_masks(one, other, weights, most):
    """Return masks that are free in both families, the heaviest ones of 0, 1, 2 .. things, as far as there are such.

    The last one of them has at most so many things.
    """
    masks = [0]
    way = []
    while way is not None and len(masks) <= most:
        steps = Steps(one, other, masks[-1])
        way = _best_way(steps, _costs(one, weights, masks[-1]))
        if way is not None:
            masks.append(changed(masks[-1], way))
    return masks


def _costs(one, weights, mask):
    """Return what it costs that the things change sides: what a thing of a mask weighs, and what others do not."""
    costs = [-weights[thing] for thing in one.things()]
    for at in bits_of(mask):
        costs[at] = -costs[at]
    return costs


def _best_way(steps, costs):
    """Return a way from a thing that begins to one that ends: a cheapest one and, of these, a shortest one; or None."""
    came = {at: None for at in bits_of(steps.begins())}
    found = {at: (costs[at], 1) for at in came}
    waiting = list(came)
    while waiting:
        fresh = {}
        for thing in waiting:
            cost, many = found[thing]
            for new in bits_of(steps.ahead(thing)):
                told = (cost + costs[new], many + 1)
                if new not in found or told < found[new]:
                    found[new] = told
                    came[new] = thing
                    fresh[new] = True
        waiting = list(fresh)
    ends = [(found[at], at) for at in bits_of(steps.ends()) if at in found]
    return way_to(came, min(ends)[1]) if ends else None


def split(one, other, weights, k):
    """Return two dicts of weights that add up to the weights and show the heaviest common lots of k things, or None."""
    _check(one, other, weights)
    check_number(k)
    masks = _heaviest_masks(one, other, weights, k)
    if len(masks) <= k:
        return None
    costs = _costs(one, weights, masks[k])
    levels = _levels(Steps(one, other, masks[k]), costs)
    # A thing outside has its weight besides; so no step of the first family leads to a greater first part.
    first = {}
    for at, thing in enumerate(one.things()):
        first[thing] = levels[at] if masks[k] >> at & 1 else levels[at] - costs[at]
    return first, {thing: weights[thing] - first[thing] for thing in first}


def _levels(steps, costs):
    """Return a number for each thing, of which no step leads to one that is greater by more than the step costs.

    There are such numbers because no steps that lead round gain anything.
    """
    levels = [0] * len(costs)
    waiting = list(range(len(costs)))
    while waiting:
        fresh = {}
        for thing in waiting:
            for new in bits_of(steps.ahead(thing)):
                if levels[new] > levels[thing] + costs[new]:
                    levels[new] = levels[thing] + costs[new]
                    fresh[new] = True
        waiting = list(fresh)
    return levels


def split_fault(one, other, weights, lot, first, second):
    """Tell by a tuple why two values are no split that shows a lot, all of any kind, or return None if they are one."""
    _check(one, other, weights)
    if not is_lot(lot, one.things()):
        return ("lot",)
    for word, family in (("one", one), ("other", other)):
        if not family.is_free(lot):
            return "free", word
    thing = _unsplit(weights, first, second)
    if thing is not None:
        return "split", thing
    for word, family, parts in (("one", one, first), ("other", other, second)):
        swap = _better_swap(family, parts, lot)
        if swap is not None:
            return word, swap[0], swap[1]
    return None


def _unsplit(weights, first, second):
    """Return the least thing whose weight two values do not split, "" if they are not dicts of things, or None."""
    for parts in (first, second):
        if not isinstance(parts, dict) or not all([isinstance(key, str) and key in weights for key in parts]):
            return ""
    for thing in sorted(weights):
        parts = [first.get(thing), second.get(thing)]
        if not all([is_integer(part) for part in parts]) or sum(parts) != weights[thing]:
            return thing
    return None


def _better_swap(family, parts, lot):
    """Return the least pair of a thing of a free lot and a heavier one that can take its place, or None."""
    mask = family.mask_of(lot)
    things = family.things()
    for out in bits_of(mask):
        for new in outer_bits(mask, len(things)):
            if parts[things[new]] > parts[things[out]] and family.frees(mask - (1 << out) + (1 << new)):
                return things[out], things[new]
    return None


def curve(one, other, weights):
    """Return the list of the greatest weights of common lots of 0, 1, 2 .. things, as far as there are such lots."""
    _check(one, other, weights)
    return [_told(one, weights, mask)[0] for mask in _heaviest_masks(one, other, weights, len(one))]


def best_both(one, other, weights):
    """Return the greatest weight of all lots that are free in both families, and such a lot."""
    _check(one, other, weights)
    told = [_told(one, weights, mask) for mask in _heaviest_masks(one, other, weights, len(one))]
    return max(told, key=lambda pair: pair[0])
