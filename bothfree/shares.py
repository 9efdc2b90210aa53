"""Things that are shared out among several families, each of which gets a lot that is free in it."""

from bothfree.masks import bits_of, outer_bits, size_of
from bothfree.recent import Recent


class Shares:
    """Free lots, one of each of several families over the same things, into which things are put one by one.

    A thing that finds no room may take the place of another one, which then looks for room itself, and so on. The
    shortest way of such moves leaves all lots free.
    """

    def __init__(self, families, lots):
        self._families = families
        self._lots = list(lots)

    def lots(self):
        """Return the list of the masks of the lots."""
        return list(self._lots)

    def mask(self):
        """Return the mask of the things that are in at least one lot."""
        whole = 0
        for lot in self._lots:
            whole |= lot
        return whole

    def put(self, at, spare):
        """Put a thing into one more lot; tell whether that could be done.

        To make room for it, a thing of the mask spare may fall out.
        """
        came, last, index = self._search(at, spare)
        if last is None:
            return False
        if index is not None:
            self._lots[index] += 1 << last
        while came[last] is not None:
            ahead, index = came[last]
            self._lots[index] += (1 << ahead) - (1 << last)
            last = ahead
        return True

    def keep(self, mask):
        """Take all things out of the lots that are not in a mask."""
        self._lots = [lot & mask for lot in self._lots]

    def crowd(self, at):
        """Return the mask of a thing and of all whose places it could come by, or 0 if there is room for it.

        All lots have the same span within such a mask, and the thing is in it.
        """
        came, last, _ = self._search(at, 0)
        return sum([1 << thing for thing in came]) if last is None else 0

    def _search(self, start, spare):
        """Look for room for a thing, from it on by the places of others.

        Return a dict from each thing on the ways to the thing ahead of it and the index of the lot in which that one
        could take its place; then the last thing of a way, and the index of the lot that has room for it or, for a
        thing of spare, None; or None twice.
        """
        rings = [family.rings_over(lot) for family, lot in zip(self._families, self._lots)]
        came = {start: None}
        waiting = [start]
        at = 0
        while at < len(waiting):
            thing = waiting[at]
            at += 1
            for index, lot in enumerate(self._lots):
                if lot >> thing & 1:
                    continue
                if not rings[index][thing]:
                    return came, thing, index
                for other in bits_of(rings[index][thing]):
                    if other not in came:
                        came[other] = (thing, index)
                        waiting.append(other)
                        if spare >> other & 1:
                            return came, other, None
        return came, None, None


class UnionRule:
    """The rule of the union of families: of the lots that can be parted into free lots, one of each family."""

    def __init__(self, families):
        self._families = families
        self._recent = Recent()

    def families(self):
        """Return the list of the families."""
        return list(self._families)

    def rank_of(self, mask):
        """Return the number of things of a mask that can be shared out."""
        return size_of(self._shared(mask).mask())

    def rings_over(self, mask):
        """Return the rings that the things make with a free mask, 0 for those that make none."""
        shares = self._shared(mask)
        rings = [0] * len(self._families[0])
        for at in outer_bits(mask, len(rings)):
            rings[at] = shares.crowd(at)
        return rings

    def _shared(self, mask):
        """Return the shares of as many things of a mask as possible.

        They are made of the shares of a mask that is like it: these have most of the things already.
        """
        shares = Shares(self._families, self._recent.nearest(mask, [0] * len(self._families)))
        for at in bits_of(mask & ~shares.mask()):
            shares.put(at, shares.mask() & ~mask)
        shares.keep(mask)
        self._recent.note(shares.mask(), shares.lots())
        return shares
