"""Lots that are free in both of two families: greatest ones, and what shows that none is greater."""

from bothfree.checks import is_lot
from bothfree.errors import NotFree
from bothfree.steps import Steps, changed, check_like, greatest_steps


def both(one, other):
    """Return a greatest lot that is free in both families, and a lot that shows that none is greater."""
    check_like(one, other)
    steps = greatest_steps(one, other)
    return one.lot_of(steps.mask()), one.lot_of(steps.reaching())


def both_fault(one, other, lot, x):
    """Tell by a word why two lists of strings are no right answer of both, or return None if they are one."""
    check_like(one, other)
    if not is_lot(lot, one.things()):
        return "lot"
    if not one.is_free(lot):
        return "one"
    if not other.is_free(lot):
        return "other"
    if not is_lot(x, one.things()):
        return "x"
    rest = [thing for thing in one.things() if thing not in x]
    return None if one.rank(x) + other.rank(rest) == len(lot) else "sum"


def least_set(one, other):
    """Return the lot that reaches and is contained in all that do."""
    check_like(one, other)
    return one.lot_of(greatest_steps(one, other).reaching())


def greatest_set(one, other):
    """Return the lot that reaches and contains all that do."""
    check_like(one, other)
    return one.lot_of(one.full_mask() - greatest_steps(one, other).reached())


def needed(one, other):
    """Return the things that are in every greatest lot that is free in both families."""
    check_like(one, other)
    steps = greatest_steps(one, other)
    # The greatest lots come of one of them by the steps that lead round.
    return one.lot_of(steps.mask() & ~steps.rounds())


def possible(one, other):
    """Return the things that are in at least one greatest lot that is free in both families."""
    check_like(one, other)
    steps = greatest_steps(one, other)
    return one.lot_of(steps.mask() | steps.rounds())


def extended(one, other, lot):
    """Return, behind the word more, a chain of a lot and the longer lot, or a lot that reaches behind the word set."""
    mask = _common_mask(one, other, lot)
    steps = Steps(one, other, mask)
    way = steps.shortest()
    if way is None:
        return "set", one.lot_of(steps.reaching())
    things = one.things()
    return "more", [things[at] for at in way], one.lot_of(changed(mask, way))


def _common_mask(one, other, lot):
    """Return the mask of a lot; raise an error unless it is a lot that is free in both families."""
    check_like(one, other)
    mask = one.mask_of(lot)
    if not one.frees(mask) or not other.frees(mask):
        raise NotFree()
    return mask


def chain_fault(one, other, lot, chain):
    """Tell by a word why a list of strings is no chain of a lot that is free in both, or return None if it is one."""
    mask = _common_mask(one, other, lot)
    if not len(chain) & 1:
        return "count"
    if not is_lot(chain, one.things()):
        return "thing"
    if any([(thing in lot) != (at & 1 == 1) for at, thing in enumerate(chain)]):
        return "side"
    bits = [one.mask_of([thing]) for thing in chain]
    if not one.frees(mask | bits[0]):
        return "begin"
    for at in range(1, len(bits), 2):
        rest = mask - bits[at]
        if not other.frees(rest | bits[at - 1]) or not one.frees(rest | bits[at + 1]):
            return "step"
    if not other.frees(mask | bits[-1]):
        return "end"
    longer = mask ^ sum(bits)
    return None if one.frees(longer) and other.frees(longer) else "longer"
