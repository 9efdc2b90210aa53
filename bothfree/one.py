"""One family and weights: heaviest bases and free lots, and how to see that none is heavier."""

from bothfree.checks import check_lot, check_number, check_weights, is_lot
from bothfree.errors import NotBase
from bothfree.families import Family, ring_of
from bothfree.masks import bits_of, size_of


def weight(family, weights, lot):
    """Return the sum of the weights of the things of a lot."""
    check_weights(weights, family.things())
    family.mask_of(lot)
    return sum([weights[thing] for thing in lot])


def heaviest_base(family, weights):
    """Return a base with the greatest weight."""
    check_weights(weights, family.things())
    return family.gathered(_heavy_first(weights))


def _heavy_first(weights):
    """Return the things in the descending order of their weights."""
    return sorted(weights, key=lambda thing: (-weights[thing], thing))


def heaviest_free(family, weights):
    """Return a free lot with the greatest weight."""
    check_weights(weights, family.things())
    return family.gathered([thing for thing in _heavy_first(weights) if weights[thing] > 0])


def heaviest_of(family, weights, k):
    """Return a free lot of k things with the greatest weight among these, or None."""
    base = heaviest_base(family, weights)
    check_number(k)
    if k > len(base):
        return None
    # The things of a heaviest base that are taken first are the heaviest free lot of their number.
    return sorted([thing for thing in _heavy_first(weights) if thing in base][:k])


def base_fault(family, weights, lot):
    """Tell by a tuple why a value of any kind is no heaviest base, or return None if it is one."""
    check_weights(weights, family.things())
    if not is_lot(lot, family.things()) or not family.is_base(lot):
        return ("base",)
    return _level_fault(family, weights, lot, len(lot))


def free_fault(family, weights, lot):
    """Tell by a tuple why a value of any kind is no heaviest free lot, or return None if it is one."""
    check_weights(weights, family.things())
    if not is_lot(lot, family.things()) or not family.is_free(lot):
        return ("free",)
    fault = _level_fault(family, weights, lot, len(family))
    if fault is not None and fault[1] > 0:
        return fault
    below = [thing for thing in lot if weights[thing] < 0]
    return ("below", min(below)) if below else None


def number_fault(family, weights, lot):
    """Tell by a tuple why a value of any kind is no heaviest free lot of its number, or return None if it is one."""
    check_weights(weights, family.things())
    if not is_lot(lot, family.things()) or not family.is_free(lot):
        return ("free",)
    return _level_fault(family, weights, lot, len(lot))


def _level_fault(family, weights, lot, most):
    """Return the greatest weight in whose level a lot has too few things, behind the word level, or None.

    A level asks for as many things as its rank is, but for no more than most.
    """
    for low in reversed(_worths(weights)):
        things = [thing for thing in weights if weights[thing] >= low]
        if len([thing for thing in lot if weights[thing] >= low]) < min(most, family.rank(things)):
            return ("level", low)
    return None


def _worths(weights):
    """Return the ascending list of the different weights."""
    return sorted({weights[thing] for thing in weights})


class LevelsRule:
    """The rule of the family of the heaviest bases; the parts are the masks of equal weights, the heaviest first.

    It knows, for each part, the mask of all heavier things, a base of these, and their rank.
    """

    def __init__(self, family, parts):
        self._family = family
        self._parts = []
        above = 0
        base = 0
        for part in parts:
            self._parts.append((above, part, base, size_of(base)))
            above |= part
            base = family.grown_in(base, part)

    def rank_of(self, mask):
        """Return the sum, over the parts, of what the things of a mask in it add to the rank of all heavier things."""
        total = 0
        for above, part, _, before in self._parts:
            if mask & part:
                total += self._family.rank_of(above | (mask & part)) - before
        return total

    def rings_over(self, mask):
        """Return the rings that the things make with a free mask, 0 for those that make none."""
        rings = [0] * len(self._family)
        for _, part, base, _ in self._parts:
            found = self._family.rings_over(base | (mask & part))
            for at in bits_of(part & ~mask):
                rings[at] = found[at] & part
        return rings


def all_heaviest(family, weights):
    """Return the family whose bases are the heaviest bases."""
    check_weights(weights, family.things())
    parts = []
    for worth in reversed(_worths(weights)):
        parts.append(family.mask_of([thing for thing in weights if weights[thing] == worth]))
    return Family(family.things(), LevelsRule(family, parts))


def moves(family, weights, lot, thing):
    """Return the least and the greatest weight of a thing, or None, with which a heaviest base stays a heaviest one."""
    check_weights(weights, family.things())
    check_lot(lot, family.things())
    if base_fault(family, weights, lot) is not None:
        raise NotBase()
    if thing in lot:
        return max([weights[other] for other in _deputies(family, lot, thing)], default=None), None
    ring = ring_of(family, lot, thing)
    return None, min([weights[other] for other in ring if other != thing], default=None)


def _deputies(family, base, thing):
    """Return the things outside of a base that can take the place of one of its things."""
    rest = [other for other in base if other != thing]
    return [other for other in family.things() if other not in base and family.is_free(rest + [other])]


def second(family, weights, lot):
    """Return a base with the greatest weight of all but one, or None."""
    check_weights(weights, family.things())
    if not family.is_base(lot):
        raise NotBase()
    if base_fault(family, weights, lot) is not None:
        return heaviest_base(family, weights)
    swaps = [(weights[out] - weights[new], out, new) for out in lot for new in _deputies(family, lot, out)]
    if not swaps:
        return None
    _, out, new = min(swaps)
    return sorted([thing for thing in lot if thing != out] + [new])
