"""Rows of integers: how many of them are independent, and the integers of a nought sum."""

from math import gcd


def rank_over_two(masks):
    """Return the rank of rows over two, each of which is told as the mask of its places with 1."""
    ahead = []
    for row in masks:
        for other in ahead:
            # The lesser one is the one that has no 1 at the highest place of the other row.
            row = min(row, row ^ other)
        if row:
            ahead.append(row)
    return len(ahead)


def rank_over_whole(rows):
    """Return the rank of lists of integers of the same length."""
    ahead = []
    for row in rows:
        rest = _rest_of(row, ahead)
        place = _first_place(rest, len(rest))
        if place is not None:
            ahead.append((place, rest))
    return len(ahead)


def nought_terms(rows):
    """Return the integers of the nought sum of lists of integers that make a ring.

    They have no common divisor greater than 1, and the first of them is above 0.
    """
    ahead = []
    rest = []
    width = len(rows[0])
    for at, row in enumerate(rows):
        # Behind the row stand the integers of the rows of which it is made.
        rest = _rest_of(row + [0] * at + [1] + [0] * (len(rows) - at - 1), ahead)
        ahead.append((_first_place(rest, width), rest))
    terms = rest[width:]
    divisor = common_divisor(terms)
    if terms[0] < 0:
        divisor = -divisor
    return [term // divisor for term in terms]


def common_divisor(integers):
    """Return the greatest common divisor of integers, 0 if there is none but 0."""
    divisor = 0
    for integer in integers:
        divisor = gcd(divisor, integer)
    return divisor


def _rest_of(row, ahead):
    """Return a row that is changed by the rows ahead of it such that it has 0 at the place of each of them.

    Each entry stays a determinant of the rows, so that no division leaves a rest and no integer grows too much.
    """
    before = 1
    for place, other in ahead:
        top = other[place]
        own = row[place]
        row = [(top * mine - own * its) // before for mine, its in zip(row, other)]
        before = top
    return row


def _first_place(row, width):
    """Return the first place of a row, below a width, at which no 0 stands, or None."""
    for place in range(width):
        if row[place]:
            return place
    return None
