"""Families of free lots: what can be asked of one family, and the families that are made of their bases."""

from bothfree.checks import check_lot, first_wrong, sorted_things
from bothfree.errors import BadBases, BrokenBases, InLot, NoThing, NotFree, TooMany, UnlikeThings
from bothfree.masks import bits_of, grown, parts_of, size_of

MOST_FOR_LISTS = 12
MOST_BASES = 2000
MOST_LISTED = 10


class Family:
    """Things, some lots of which are free.

    The rule is an object with the methods rank_of and rings_over, for lots that are told as masks over the
    sorted things. A family is such an object itself. It remembers what its rule told, because questions would
    otherwise multiply where families are made one out of the other.
    """

    def __init__(self, things, rule):
        self._things = sorted(things)
        self._bits = {thing: 1 << at for at, thing in enumerate(self._things)}
        self._rule = rule
        self._ranks = {}
        self._rings = {}

    def things(self):
        """Return the sorted list of the things."""
        return list(self._things)

    def __len__(self):
        return len(self._things)

    def __contains__(self, thing):
        return thing in self._bits

    def rank(self, lot):
        """Return the number of things in a greatest free lot of things of this lot."""
        return self.rank_of(self.mask_of(lot))

    def is_free(self, lot):
        """Tell whether a lot is free."""
        return self.frees(self.mask_of(lot))

    def is_base(self, lot):
        """Tell whether a lot is a base."""
        mask = self.mask_of(lot)
        return self.frees(mask) and size_of(mask) == self.rank_of(self.full_mask())

    def span(self, lot):
        """Return all things with which the lot has the same rank as alone."""
        mask = self.mask_of(lot)
        many = self.rank_of(mask)
        return [thing for thing in self._things if self.rank_of(mask | self._bits[thing]) == many]

    def base(self):
        """Return the first base."""
        return self.gathered(self._things)

    def gathered(self, things):
        """Return the lot into which things are taken in their order, each one as long as the lot stays free with it."""
        chosen = 0
        for thing in things:
            chosen = self.grown_in(chosen, self._bits[thing])
        return self.lot_of(chosen)

    def grown_in(self, chosen, mask):
        """Return a free mask that has taken in the things of another one, each as long as it stays free with it."""
        for at in bits_of(mask):
            if self.frees(chosen | (1 << at)):
                chosen |= 1 << at
        return chosen

    def stuck(self):
        """Return the things that are in no base."""
        return [thing for thing in self._things if self.rank_of(self._bits[thing]) == 0]

    def sure(self):
        """Return the things that are in every base."""
        full = self.full_mask()
        many = self.rank_of(full)
        return [thing for thing in self._things if self.rank_of(full - self._bits[thing]) < many]

    def rank_of(self, mask):
        """Return the rank of a lot that is told as a mask."""
        if mask not in self._ranks:
            self._ranks[mask] = self._rule.rank_of(mask)
        return self._ranks[mask]

    def rings_over(self, mask):
        """Return the list of the rings, as masks, that the things in their order make with a free mask.

        It has 0 for each thing that makes none, and for those of the mask. Nobody may change the list.
        """
        if mask not in self._rings:
            self._rings[mask] = self._rule.rings_over(mask)
        return self._rings[mask]

    def rule(self):
        """Return the rule."""
        return self._rule

    def frees(self, mask):
        """Tell whether a lot that is told as a mask is free."""
        return self.rank_of(mask) == size_of(mask)

    def full_mask(self):
        """Return the mask of all things."""
        return (1 << len(self._things)) - 1

    def mask_of(self, lot):
        """Return the mask of a lot; raise BadLot if it is none."""
        check_lot(lot, self._bits)
        return sum([self._bits[thing] for thing in lot])

    def lot_of(self, mask):
        """Return the sorted lot of a mask."""
        return [self._things[at] for at in bits_of(mask)]


class TableRule:
    """The rule of a family that knows the rank of every mask."""

    def __init__(self, ranks):
        self._ranks = ranks

    def rank_of(self, mask):
        """Return the rank of a mask."""
        return self._ranks[mask]

    def rings_over(self, mask):
        """Return the rings that the things make with a free mask, 0 for those that make none."""
        many = len(self._ranks).bit_length() - 1
        return [self._ring_of(mask | (1 << at)) for at in range(many)]

    def _ring_of(self, whole):
        """Return the ring of a mask that loses at most one with the right thing, or 0.

        The ring loses itself with each of its things; the other things leave it whole.
        """
        if self._ranks[whole] == size_of(whole):
            return 0
        return sum([whole - part for part in parts_of(whole) if self._ranks[part] == size_of(part)])


def ring_of(family, lot, thing):
    """Return the only ring among the things of a free lot and one thing more, or None."""
    mask = family.mask_of(lot)
    if not family.frees(mask):
        raise NotFree()
    if thing not in family:
        raise NoThing(thing)
    if thing in lot:
        raise InLot(thing)
    ring = family.rings_over(mask)[family.things().index(thing)]
    return family.lot_of(ring) if ring else None


def is_ring(family, lot):
    """Tell whether a lot is not free, but becomes free whichever thing is taken out."""
    mask = family.mask_of(lot)
    return not family.frees(mask) and all([family.frees(part) for part in parts_of(mask)])


def free_lots(family):
    """Return all free lots, those with fewer things first."""
    _refuse_large(family)
    found = []
    level = [0]
    while level:
        found.extend(level)
        level = [mask for mask in grown(level, len(family)) if family.frees(mask)]
    return [family.lot_of(mask) for mask in found]


def rings(family):
    """Return all rings, those with fewer things first."""
    _refuse_large(family)
    found = []
    level = [0]
    while level:
        # A ring without its greatest thing is free, so each ring grows out of a free lot.
        candidates = grown(level, len(family))
        free = {mask: True for mask in candidates if family.frees(mask)}
        ahead = {mask: True for mask in level}
        others = [mask for mask in candidates if mask not in free]
        found.extend([mask for mask in others if all([part in ahead for part in parts_of(mask)])])
        level = list(free)
    return [family.lot_of(mask) for mask in found]


def _refuse_large(family):
    """Raise TooMany if there would be too many lots to list."""
    if len(family) > MOST_FOR_LISTS:
        raise TooMany(MOST_FOR_LISTS)


def bases(family):
    """Return the sorted list of all bases."""
    full = family.full_mask()
    many = family.rank_of(full)
    found = []
    # Each entry is a part of a base and the index from which on its further things come.
    waiting = [(0, 0)]
    while waiting:
        chosen, at = waiting.pop()
        if size_of(chosen) == many:
            found.append(chosen)
            if len(found) > MOST_BASES:
                raise TooMany(MOST_BASES)
            continue
        longer = chosen + (1 << at)
        fits = family.frees(longer)
        behind = full >> (at + 1) << (at + 1)
        # What is put down last is taken up first: the lots with the thing come ahead of the others.
        if not fits or family.rank_of(chosen | behind) == many:
            waiting.append((chosen, at + 1))
        if fits:
            waiting.append((longer, at + 1))
    return [family.lot_of(mask) for mask in found]


def alike(one, other):
    """Return the least lot that is free in just one of two families, or None."""
    if one.things() != other.things():
        raise UnlikeThings()
    _refuse_large(one)
    level = [0]
    while level:
        # No lesser lot tells the families apart, so both have grown out of the same free lots.
        candidates = grown(level, len(one))
        level = []
        for mask in candidates:
            free = one.frees(mask)
            if free != other.frees(mask):
                return one.lot_of(mask)
            if free:
                level.append(mask)
    return None


def listed(things, lots):
    """Return the family of these things whose bases are these lots."""
    names = sorted_things(things, MOST_LISTED)
    masks = _listed_masks(names, lots)
    _check_exchanges(names, masks)
    return Family(names, TableRule(_rank_table(masks, len(names))))


def _listed_masks(names, lots):
    """Return the masks of lots; raise BadBases unless they are different lots of these names."""
    if not lots:
        raise BadBases(-1)
    bits = {name: 1 << at for at, name in enumerate(names)}
    masks = []
    for index, lot in enumerate(lots):
        if first_wrong(lot, lambda entry: entry in bits) is not None:
            raise BadBases(index)
        mask = sum([bits[name] for name in lot])
        if mask in masks:
            raise BadBases(index)
        masks.append(mask)
    return masks


def _check_exchanges(names, masks):
    """Raise BrokenBases unless each thing of a base has an exchange in each other base without it."""
    known = {mask: True for mask in masks}
    ordered = sorted(masks, key=bits_of)
    for one in ordered:
        into = {at: _exchanges(one, at, len(names), known) for at in bits_of(one)}
        for other in ordered:
            for at in bits_of(one & ~other):
                if not into[at] & other:
                    told = [[names[bit] for bit in bits_of(mask)] for mask in (one, other)]
                    raise BrokenBases(told[0], told[1], names[at])


def _exchanges(base, at, many, known):
    """Return the mask of the things outside of a base that can stand in it for the thing at an index."""
    rest = base - (1 << at)
    outer = [1 << new for new in range(many) if not base & (1 << new)]
    return sum([bit for bit in outer if rest + bit in known])


def _rank_table(masks, many):
    """Return the list of the ranks of all lots of many things, by the masks of the bases."""
    free = {mask: True for mask in masks}
    # From the greatest lots down, so that each free lot is known ahead of its parts.
    for mask in reversed(range(1 << many)):
        if mask in free:
            for part in parts_of(mask):
                free[part] = True
    ranks = []
    for mask in range(1 << many):
        ranks.append(size_of(mask) if mask in free else max([ranks[part] for part in parts_of(mask)]))
    return ranks
