"""Rows of integers: how many of them are independent, and the integers of a nought sum."""

from math import gcd


def rank_over_two(masks):
    """Return the rank of rows over two, each of which is told as the mask of its places with 1."""
    ahead = []
    for row in masks:
        for other in ahead:
            # The lesser one is the one that has no 1 at the highest place of the other row.
            row = min(row, row ^ other)
        if row:
            ahead.append(row)
    return len(ahead)


def rings_over_two(masks, free):
    """Return the rings, as masks of indexes, that rows over two make with those at free indexes, 0 for none."""
    many = len(masks)
    ahead = []
    for at in free:
        ahead.append(_tagged_rest(masks, at, ahead))
    rings = [0] * many
    for at in range(many):
        if at not in free:
            rest = _tagged_rest(masks, at, ahead)
            rings[at] = 0 if rest >> many else rest
    return rings


def _tagged_rest(masks, at, ahead):
    """Return what the rows ahead leave of a row, with the tags behind it of the rows of which it is made."""
    rest = (masks[at] << len(masks)) | (1 << at)
    for other in ahead:
        rest = min(rest, rest ^ other)
    return rest


def rings_over_whole(rows, free):
    """Return the rings, as masks of indexes, that lists of integers make with those at free indexes, 0 for none."""
    places = [list(column) for column in zip(*rows)]
    leading = []
    before = 1
    for at in free:
        lead = [place for place, row in enumerate(places) if row[at] and place not in leading][0]
        leading.append(lead)
        before = _cleared(places, lead, at, before)
    others = [row for place, row in enumerate(places) if place not in leading]
    rings = [0] * len(rows)
    for at in range(len(rows)):
        if at not in free and not any([row[at] for row in others]):
            # The only entry of a free column stands at its leading place.
            rings[at] = (1 << at) + sum([1 << own for own, lead in zip(free, leading) if places[lead][at]])
    return rings


def _cleared(places, lead, at, before):
    """Change rows such that all but the leading one have 0 at an index; return the entry of the leading one there.

    As in _rest_of, each entry stays a determinant.
    """
    ahead = places[lead]
    top = ahead[at]
    for place, row in enumerate(list(places)):
        if place != lead:
            own = row[at]
            places[place] = [(top * mine - own * its) // before for mine, its in zip(row, ahead)]
    return top


def rank_over_whole(rows):
    """Return the rank of lists of integers of the same length."""
    ahead = []
    for row in rows:
        rest = _rest_of(row, ahead)
        place = _first_place(rest, len(rest))
        if place is not None:
            ahead.append((place, rest))
    return len(ahead)


def nought_terms(rows):
    """Return the integers of the nought sum of lists of integers that make a ring.

    They have no common divisor greater than 1, and the first of them is above 0.
    """
    ahead = []
    rest = []
    width = len(rows[0])
    for at, row in enumerate(rows):
        # Behind the row stand the integers of the rows of which it is made.
        rest = _rest_of(row + [0] * at + [1] + [0] * (len(rows) - at - 1), ahead)
        ahead.append((_first_place(rest, width), rest))
    terms = rest[width:]
    divisor = common_divisor(terms)
    if terms[0] < 0:
        divisor = -divisor
    return [term // divisor for term in terms]


def common_divisor(integers):
    """Return the greatest common divisor of integers, 0 if there is none but 0."""
    divisor = 0
    for integer in integers:
        divisor = gcd(divisor, integer)
    return divisor


def _rest_of(row, ahead):
    """Return a row that is changed by the rows ahead of it such that it has 0 at the place of each of them.

    Each entry stays a determinant of the rows, so that no division leaves a rest and no integer grows too much.
    """
    before = 1
    for place, other in ahead:
        top = other[place]
        own = row[place]
        row = [(top * mine - own * its) // before for mine, its in zip(row, other)]
        before = top
    return row


def _first_place(row, width):
    """Return the first place of a row, below a width, at which no 0 stands, or None."""
    for place in range(width):
        if row[place]:
            return place
    return None
