"""Many free lots: coverings, packings of bases, lots that are parted among families, and what shows their bounds."""

from math import gcd

from bothfree.checks import first_wrong, is_integer, is_lot, is_name, is_strings
from bothfree.errors import BadNumber
from bothfree.families import Family
from bothfree.masks import bits_of, size_of
from bothfree.shares import Shares, UnionRule
from bothfree.steps import check_like

GREATEST_NUMBER = 24


def _check_number(number):
    """Raise BadNumber unless a value of any kind is an integer from 0 to the greatest number."""
    if not is_integer(number) or not 0 <= number <= GREATEST_NUMBER:
        raise BadNumber(number)


def _filled(families, bits, times):
    """Share out things among families, each so many times as far as possible.

    Return the shares and the mask of all things whose lots are full: within it all lots have the same span as itself.
    """
    shares = Shares(families, [0] * len(families))
    full = 0
    for at in bits:
        for _ in range(times):
            if not full >> at & 1 and not shares.put(at, 0):
                full |= shares.crowd(at)
    return shares, full


def _all_of(family):
    """Return the indexes of all things of a family."""
    return list(range(len(family)))


def _lots_of(family, shares):
    """Return the lots of shares."""
    return [family.lot_of(lot) for lot in shares.lots()]


def covered(family, k):
    """Return a cover by k lots, or None."""
    _check_number(k)
    shares, full = _filled([family] * k, _all_of(family), 1)
    return None if full else _lots_of(family, shares)


def cover_paper(family, k):
    """Return a lot that has more things than k free lots can have of it, or None."""
    _check_number(k)
    _, full = _filled([family] * k, _all_of(family), 1)
    return family.lot_of(full) if full else None


def packed(family, k):
    """Return a pack of k bases, or None."""
    _check_number(k)
    shares, _ = _filled([family] * k, _all_of(family), 1)
    return _lots_of(family, shares) if _are_all_bases(family, shares) else None


def _are_all_bases(family, shares):
    """Tell whether all lots of shares are bases."""
    many = family.rank_of(family.full_mask())
    return all([size_of(lot) == many for lot in shares.lots()])


def pack_paper(family, k):
    """Return a lot outside of which there are too few things for k bases, or None."""
    _check_number(k)
    shares, full = _filled([family] * k, _all_of(family), 1)
    return None if _are_all_bases(family, shares) else family.lot_of(full)


def cover_fault(family, k, lots):
    """Tell by a tuple why a value of any kind is no cover by k lots, or return None if it is one."""
    _check_number(k)
    if not _are_lists(lots, k):
        return ("form",)
    fault = _wrong_lot(family, lots, "free") or _thing_twice(lots)
    if fault is not None:
        return fault
    out = [thing for thing in family.things() if not any([thing in lot for lot in lots])]
    return ("out", out[0]) if out else None


def pack_fault(family, k, lots):
    """Tell by a tuple why a value of any kind is no pack of k bases, or return None if it is one."""
    _check_number(k)
    if not _are_lists(lots, k):
        return ("form",)
    return _wrong_lot(family, lots, "base") or _thing_twice(lots)


def _are_lists(value, k):
    """Tell whether a value of any kind is a list of k lists of strings."""
    return isinstance(value, list) and len(value) == k and all([is_strings(part) for part in value])


def _wrong_lot(family, lots, word):
    """Return, behind a word, the first index of a list that is no lot, or no free lot, or no base; or None."""
    for index, lot in enumerate(lots):
        if not is_lot(lot, family.things()):
            return "lot", index
    for index, lot in enumerate(lots):
        if not (family.is_free(lot) if word == "free" else family.is_base(lot)):
            return word, index
    return None


def _thing_twice(lots):
    """Return the least thing that is in two of some lots, behind the word twice, or None."""
    things = sorted([thing for lot in lots for thing in lot])
    at = first_wrong(things, is_name)
    return None if at is None else ("twice", things[at])


def is_cover_paper(family, k, lot):
    """Tell whether a value of any kind is a lot that has more things than k free lots can have of it."""
    _check_number(k)
    return is_lot(lot, family.things()) and len(lot) > k * family.rank(lot)


def is_pack_paper(family, k, lot):
    """Tell whether a value of any kind is a lot outside of which there are too few things for k bases."""
    _check_number(k)
    if not is_lot(lot, family.things()):
        return False
    return len(family) - len(lot) < k * (family.rank(family.things()) - family.rank(lot))


def fewest(family):
    """Return the least number of lots of a cover, or None if there is none."""
    if family.stuck():
        return None
    k = 0
    _, full = _filled([], _all_of(family), 1)
    while full:
        # No fewer lots cover the full things.
        k = -(-size_of(full) // family.rank_of(full))
        _, full = _filled([family] * k, _all_of(family), 1)
    return k


def most(family):
    """Return the greatest number of bases of a pack, or None if the empty lot is a base."""
    many = family.rank_of(family.full_mask())
    if many == 0:
        return None
    k = len(family) // many
    shares, full = _filled([family] * k, _all_of(family), 1)
    while not _are_all_bases(family, shares):
        # There are no more bases that have unlike things outside of the full ones.
        k = (len(family) - size_of(full)) // (many - family.rank_of(full))
        shares, full = _filled([family] * k, _all_of(family), 1)
    return k


def parted(families, lot):
    """Return lots into which a lot is parted, one that is free in each family, or None."""
    shares, full = _parted_shares(families, lot)
    return None if full else _lots_of(families[0], shares)


def parted_paper(families, lot):
    """Return a part of a lot that has more things than its ranks in all families together, or None."""
    _, full = _parted_shares(families, lot)
    return families[0].lot_of(full) if full else None


def _parted_shares(families, lot):
    """Return the shares of as many things of a lot as possible, and the mask of all things whose lots are full."""
    _check_like_all(families)
    return _filled(families, bits_of(families[0].mask_of(lot)), 1)


def _check_like_all(families):
    """Raise UnlikeThings unless all families have the same things."""
    for family in families:
        check_like(families[0], family)


def union(families):
    """Return the family of the lots that can be parted into free lots, one of each family."""
    _check_like_all(families)
    things = families[0].things()
    times = {}
    for family in families:
        # The union of unions is that of all their families.
        rule = family.rule()
        parts = rule.families() if isinstance(rule, UnionRule) else [family]
        for part in parts:
            times[part] = times.get(part, 0) + 1
    # A family is good for no more lots than there are things.
    return Family(things, UnionRule([part for part in times for _ in range(min(times[part], len(things) + 1))]))


def thickness(family):
    """Return the greatest fraction of things by rank of all lots, with what shows it, or None."""
    if not len(family) or family.stuck():
        return None
    full = family.full_mask()
    while full:
        paper = full
        p, q = _lowest(size_of(paper), family.rank_of(paper))
        shares, full = _filled([family] * p, _all_of(family), q)
    return p, q, family.lot_of(paper), _lots_of(family, shares)


def _lowest(p, q):
    """Return a fraction in lowest terms."""
    return p // gcd(p, q), q // gcd(p, q)


def strength(family):
    """Return the least fraction of things outside by rank outside of all lots, with what shows it, or None."""
    many = family.rank_of(family.full_mask())
    if many == 0:
        return None
    paper = 0
    done = False
    while not done:
        p, q = _lowest(len(family) - size_of(paper), many - family.rank_of(paper))
        shares, full = _filled([family] * p, _all_of(family), q)
        done = _are_all_bases(family, shares)
        if not done:
            paper = full
    return p, q, family.lot_of(paper), _lots_of(family, shares)


def thickness_fault(family, thing):
    """Tell by a tuple why a value of any kind is no right answer of thickness, or return None if it is one."""
    if not _is_fraction(thing):
        return ("form",)
    p, q, lot, lots = thing
    if not is_lot(lot, family.things()):
        return ("paper",)
    rank = family.rank(lot)
    if rank == 0 or len(lot) * q != p * rank:
        return ("paper",)
    return _wrong_lot(family, lots, "free") or _wrong_times(family, lots, lambda times: times == q)


def strength_fault(family, thing):
    """Tell by a tuple why a value of any kind is no right answer of strength, or return None if it is one."""
    if not _is_fraction(thing):
        return ("form",)
    p, q, lot, lots = thing
    if not is_lot(lot, family.things()):
        return ("paper",)
    more = family.rank(family.things()) - family.rank(lot)
    if more == 0 or (len(family) - len(lot)) * q != p * more:
        return ("paper",)
    return _wrong_lot(family, lots, "base") or _wrong_times(family, lots, lambda times: times <= q)


def _is_fraction(value):
    """Tell whether a value of any kind has the form of an answer of thickness and of strength."""
    if not isinstance(value, tuple) or len(value) != 4:
        return False
    p, q, lot, lots = value
    if not all([is_integer(part) and 1 <= part <= GREATEST_NUMBER for part in (p, q)]) or gcd(p, q) > 1:
        return False
    return is_strings(lot) and _are_lists(lots, p)


def _wrong_times(family, lots, fits):
    """Return the least thing that is in a number of lots that does not fit, behind the word times, or None."""
    for thing in family.things():
        if not fits(len([lot for lot in lots if thing in lot])):
            return "times", thing
    return None
