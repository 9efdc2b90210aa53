"""Chains of bases: exchanges of one thing that lead from one base of a family to another one."""

from bothfree.errors import InLot, NoThing, NotBase, TooMany
from bothfree.masks import bits_of, size_of
from bothfree.seats import Seats

MOST_COUNTED = 6


def distance(family, one, other):
    """Return the number of things of one base that are not in another one."""
    here, there = _base_masks(family, one, other)
    return size_of(here & ~there)


def _base_masks(family, one, other):
    """Return the masks of two lots; raise an error unless both are bases."""
    here, there = family.mask_of(one), family.mask_of(other)
    if not _is_base(family, here) or not _is_base(family, there):
        raise NotBase()
    return here, there


def _is_base(family, mask):
    """Tell whether a mask is a base."""
    return family.frees(mask) and size_of(mask) == family.rank_of(family.full_mask())


def near_swaps(family, base):
    """Return the ascending list of all swaps of a base."""
    mask, _ = _base_masks(family, base, base)
    return _named(family, _swaps_of(family, mask, mask, family.full_mask() - mask))


def _swaps_of(family, base, outs, ins):
    """Return the ascending list of the swaps of a base, as pairs of indexes, of a thing of outs and one of ins."""
    rings = family.rings_over(base)
    return [(out, new) for out in bits_of(outs) for new in bits_of(ins) if rings[new] >> out & 1]


def _named(family, pairs):
    """Return the pairs of things that stand at pairs of indexes."""
    things = family.things()
    return [(things[out], things[new]) for out, new in pairs]


def swaps(family, one, other):
    """Return a list of swaps that lead from one base to another one, with each thing that goes or comes just once."""
    here, there = _base_masks(family, one, other)
    done = []
    while here != there:
        # The ring of a thing of the other base is not within that base, so some thing can go for it.
        out, new = _swaps_of(family, here, here & ~there, there & ~here)[0]
        done.append((out, new))
        here += (1 << new) - (1 << out)
    return _named(family, done)


def nearer_swaps(family, one, other):
    """Return the ascending list of the swaps of one base that bring it nearer to another one."""
    here, there = _base_masks(family, one, other)
    return _named(family, _swaps_of(family, here, here & ~there, there & ~here))


def swaps_fault(family, one, other, given):
    """Tell by a tuple why a value of any kind is no right answer of swaps, or return None if it is one."""
    here, there = _base_masks(family, one, other)
    if not isinstance(given, list) or not all([_is_pair(value) for value in given]):
        return ("form",)
    outs = family.lot_of(here & ~there)
    ins = family.lot_of(there & ~here)
    for index, (out, new) in enumerate(given):
        if out not in outs or new not in ins:
            return "pair", index
        # A thing that has gone or come does not do so once more.
        outs.remove(out)
        ins.remove(new)
        here += family.mask_of([new]) - family.mask_of([out])
        if not _is_base(family, here):
            return "base", index
    return ("end",) if outs else None


def _is_pair(value):
    """Tell whether a value of any kind is a tuple of two strings."""
    return isinstance(value, tuple) and len(value) == 2 and all([isinstance(part, str) for part in value])


def twin(family, one, other, thing):
    """Return a thing that can be exchanged for a thing of one base such that both bases stay bases."""
    return twins(family, one, other, thing)[0]


def twins(family, one, other, thing):
    """Return the sorted list of the things that can be exchanged for a thing of one base such that both stay bases."""
    here, there = _base_masks(family, one, other)
    if thing not in one:
        raise NoThing(thing)
    if thing in other:
        raise InLot(thing)
    out = family.things().index(thing)
    ring = family.rings_over(there)[out]
    return [family.things()[new] for _, new in _swaps_of(family, here, 1 << out, ring & there & ~here)]


def partners(family, one, other):
    """Return a dict, one to one, from what one base has alone to what another one has alone that can take its place."""
    here, there = _base_masks(family, one, other)
    outs = bits_of(here & ~there)
    choices = {out: 0 for out in outs}
    for out, new in _swaps_of(family, here, here & ~there, there & ~here):
        choices[out] += 1 << new
    seats = Seats([choices[out] for out in outs])
    for at in range(len(outs)):
        seats.seat(at)
    return dict(_named(family, [(outs[at], new) for at, new in seats.given().items()]))


def partners_fault(family, one, other, given):
    """Tell by a tuple why a value of any kind is no right answer of partners, or return None if it is one."""
    here, there = _base_masks(family, one, other)
    if not isinstance(given, dict) or not all([_is_pair(pair) for pair in given.items()]):
        return ("form",)
    outs = family.lot_of(here & ~there)
    for wrong in ([thing for thing in given if thing not in outs], [thing for thing in outs if thing not in given]):
        if wrong:
            return "thing", min(wrong)
    ins = family.lot_of(there & ~here)
    for thing in outs:
        if given[thing] not in ins:
            return "twice", thing
        ins.remove(given[thing])
    for thing in outs:
        if not _is_base(family, here - family.mask_of([thing]) + family.mask_of([given[thing]])):
            return "base", thing
    return None


def count_swaps(family, one, other):
    """Return the number of lists that swaps may return."""
    here, there = _base_masks(family, one, other)
    many = size_of(here & ~there)
    if many > MOST_COUNTED:
        raise TooMany(MOST_COUNTED)
    ways = {here: 1}
    for _ in range(many):
        further = {}
        for base in ways:
            for out, new in _swaps_of(family, base, base & ~there, there & ~base):
                behind = base + (1 << new) - (1 << out)
                further[behind] = further.get(behind, 0) + ways[base]
        ways = further
    return ways[there]
