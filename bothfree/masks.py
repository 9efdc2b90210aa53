"""Lots as masks: integers whose bit at an index stands for the thing at this index of the sorted things."""


def size_of(mask):
    """Return the number of things of a mask."""
    return f"{mask:b}".count("1")


def bits_of(mask):
    """Return the ascending list of the indexes of a mask."""
    found = []
    while mask:
        low = mask & -mask
        found.append(low.bit_length() - 1)
        mask -= low
    return found


def parts_of(mask):
    """Return the masks that lack just one thing of a mask."""
    return [mask - (1 << at) for at in bits_of(mask)]


def grown(masks, many):
    """Return the masks with one thing more, of many things, that is greater than all they have.

    Masks of the same size that stand in the sorted order of their lots give such masks again.
    """
    return [mask + (1 << at) for mask in masks for at in range(mask.bit_length(), many)]


def outer_bits(mask, many):
    """Return the ascending list of the indexes, of many, that a mask lacks."""
    return [at for at in range(many) if not mask >> at & 1]
