"""Steps from thing to thing by which a lot that is free in two families is changed into another one."""

from bothfree.errors import UnlikeThings
from bothfree.masks import bits_of, outer_bits


def check_like(one, other):
    """Raise UnlikeThings unless two families have the same things."""
    if one.things() != other.things():
        raise UnlikeThings()


class Steps:
    """The steps of a mask that is free in both of two families.

    A step leads from a thing of the mask to each outer one that can take its place in the first family, and from an
    outer thing to each one of the mask whose place it can take in the second family. An outer thing begins if the
    mask with it is free in the first family, and ends if that is free in the second one.
    """

    def __init__(self, one, other, mask):
        self._mask = mask
        self._begins = 0
        self._ends = 0
        self._ahead = [0] * len(one)
        self._behind = [0] * len(one)
        rings = one.rings_over(mask)
        others = other.rings_over(mask)
        for at in outer_bits(mask, len(one)):
            if not rings[at]:
                self._begins |= 1 << at
            if not others[at]:
                self._ends |= 1 << at
            self._behind[at] = (rings[at] or mask) & mask
            self._ahead[at] = (others[at] or mask) & mask
            for inner in bits_of(self._behind[at]):
                self._ahead[inner] |= 1 << at
            for inner in bits_of(self._ahead[at]):
                self._behind[inner] |= 1 << at

    def mask(self):
        """Return the mask whose steps these are."""
        return self._mask

    def begins(self):
        """Return the mask of the things that begin."""
        return self._begins

    def ends(self):
        """Return the mask of the things that end."""
        return self._ends

    def ahead(self, at):
        """Return the mask of the things to which a step leads from a thing."""
        return self._ahead[at]

    def shortest(self):
        """Return the indexes of a shortest way from a thing that begins to one that ends, or None."""
        came = {at: None for at in bits_of(self._begins)}
        waiting = list(came)
        at = 0
        while at < len(waiting):
            thing = waiting[at]
            at += 1
            if self._ends >> thing & 1:
                return way_to(came, thing)
            for new in bits_of(self._ahead[thing]):
                if new not in came:
                    came[new] = thing
                    waiting.append(new)
        return None

    def reached(self):
        """Return the mask of the things that begin and of all that can be come to from them."""
        return _spread(self._begins, self._ahead)

    def reaching(self):
        """Return the mask of the things that end and of all from which they can be come to."""
        return _spread(self._ends, self._behind)

    def rounds(self):
        """Return the mask of the things from which steps lead back to themselves."""
        own = [at for at in range(len(self._ahead)) if _spread(self._ahead[at], self._ahead) >> at & 1]
        return sum([1 << at for at in own])


def way_to(came, thing):
    """Return the way to a thing, by a dict from each thing to the one ahead of it, or None for the first one."""
    way = []
    while thing is not None:
        way.append(thing)
        thing = came[thing]
    return way[::-1]


def _spread(mask, steps):
    """Return the mask of the things that can be come to from a mask, with the mask itself."""
    fresh = mask
    while fresh:
        new = 0
        for at in bits_of(fresh):
            new |= steps[at]
        fresh = new & ~mask
        mask |= new
    return mask


def changed(mask, way):
    """Return a mask in which the things of a way have changed sides."""
    for at in way:
        mask ^= 1 << at
    return mask


def greatest_steps(one, other):
    """Return the steps of a greatest mask that is free in both families."""
    steps = Steps(one, other, 0)
    way = steps.shortest()
    while way is not None:
        steps = Steps(one, other, changed(steps.mask(), way))
        way = steps.shortest()
    return steps
