"""Rules of families that are made out of other families."""

from bothfree.masks import bits_of, outer_bits, size_of
from bothfree.recent import Recent


class TurnedRule:
    """The rule of the turned family of a family."""

    def __init__(self, family):
        self._family = family
        self._full = family.full_mask()
        self._most = family.rank_of(self._full)
        self._recent = Recent()

    def rank_of(self, mask):
        """Return the rank of a mask."""
        return size_of(mask) + self._family.rank_of(self._full - mask) - self._most

    def rings_over(self, mask):
        """Return the rings that the things make with a free mask, 0 for those that make none.

        A thing makes a ring if it is in all bases beside the mask: then it can be exchanged for things of the ring
        alone.
        """
        base = self._base_beside(mask)
        found = self._family.rings_over(base)
        rings = [0] * len(found)
        for at in bits_of(base):
            partners = sum([1 << other for other in range(len(found)) if found[other] >> at & 1])
            if partners & mask == partners:
                rings[at] = partners | (1 << at)
        return rings

    def _base_beside(self, mask):
        """Return the mask of a base of the family that has no thing of a mask, which is free in the turned one."""
        rest = self._full - mask
        base = self._recent.nearest(rest, None)
        if base is None:
            base = self._family.grown_in(0, rest)
        while base & mask:
            at = bits_of(base & mask)[0]
            found = self._family.rings_over(base)
            other = [new for new in bits_of(rest) if found[new] >> at & 1][0]
            base += (1 << other) - (1 << at)
        self._recent.note(base, base)
        return base


class Chart:
    """Which thing of one family, told by its index, stands for which thing of another one."""

    def __init__(self, pairs):
        self._pairs = pairs
        self._there = {own: 1 << other for own, other in pairs}
        self._back = {other: 1 << own for own, other in pairs}

    def there(self, mask):
        """Return the mask in the other family of the things of a mask that stand for things there."""
        return sum([self._there.get(at, 0) for at in bits_of(mask)])

    def back_into(self, rings, found):
        """Put rings that were found in the other family where they stand in the list of the own ones."""
        for own, other in self._pairs:
            rings[own] = sum([self._back.get(at, 0) for at in bits_of(found[other])])


class PartRule:
    """The rule of some things of a family, by a chart, with other things drawn in or, if their mask is 0, none."""

    def __init__(self, family, chart, many, drawn):
        self._family = family
        self._chart = chart
        self._many = many
        self._drawn = drawn
        self._base = family.grown_in(0, drawn)
        self._before = size_of(self._base)

    def rank_of(self, mask):
        """Return what the things of a mask add to the rank of the things drawn in."""
        return self._family.rank_of(self._chart.there(mask) | self._drawn) - self._before

    def rings_over(self, mask):
        """Return the rings that the things make with a free mask, 0 for those that make none."""
        rings = [0] * self._many
        self._chart.back_into(rings, self._family.rings_over(self._chart.there(mask) | self._base))
        return rings


class JoinedRule:
    """The rule of the things of two families, side by side, each with its chart."""

    def __init__(self, one, one_chart, other, other_chart):
        self._one = one
        self._one_chart = one_chart
        self._other = other
        self._other_chart = other_chart

    def rank_of(self, mask):
        """Return the sum of the ranks of the two sides of a mask."""
        one = self._one.rank_of(self._one_chart.there(mask))
        return one + self._other.rank_of(self._other_chart.there(mask))

    def rings_over(self, mask):
        """Return the rings that the things make with a free mask, 0 for those that make none."""
        rings = [0] * (len(self._one) + len(self._other))
        self._one_chart.back_into(rings, self._one.rings_over(self._one_chart.there(mask)))
        self._other_chart.back_into(rings, self._other.rings_over(self._other_chart.there(mask)))
        return rings


class CutRule:
    """The rule of the free lots of a family that have at most so many things."""

    def __init__(self, family, most):
        self._family = family
        self._most = most

    def rank_of(self, mask):
        """Return the rank of a mask, at most the greatest number."""
        return min(self._most, self._family.rank_of(mask))

    def rings_over(self, mask):
        """Return the rings that the things make with a free mask, 0 for those that make none."""
        rings = list(self._family.rings_over(mask))
        if size_of(mask) == self._most:
            for at in outer_bits(mask, len(rings)):
                rings[at] = rings[at] or mask | (1 << at)
        return rings


class FreeRule:
    """The rule of a family in which all lots are free."""

    def __init__(self, many):
        self._many = many

    def rank_of(self, mask):
        """Return the number of things of a mask."""
        return size_of(mask)

    def rings_over(self, mask):
        """Return 0 for each thing, because none makes a ring."""
        return [0] * self._many
