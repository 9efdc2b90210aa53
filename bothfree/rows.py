"""Rows of integers, over two or over whole, where a lot of things is free if no sum of their rows is nought."""

from bothfree.checks import MOST_THINGS, check_lot, is_integer, is_name
from bothfree.errors import BadRows, InLot, NoThing, TooMany, UnlikeThings
from bothfree.families import Family, ring_of
from bothfree.masks import bits_of
from bothfree.sums import (common_divisor, nought_terms, rank_over_two, rank_over_whole, rings_over_two,
                           rings_over_whole)

GREATEST_WIDTH = 24


class Rows:
    """A row of integers for each thing, all of the same length."""

    def __init__(self, rows, *, over):
        if len(rows) > MOST_THINGS:
            raise TooMany(MOST_THINGS)
        self._rows = _checked_rows(rows, over)
        self._over = over

    def things(self):
        """Return the sorted list of the things."""
        return list(self._rows)

    def rows(self):
        """Return the dict from each thing to its row."""
        return {thing: list(self._rows[thing]) for thing in self._rows}

    def row(self, thing):
        """Return the row of a thing."""
        if thing not in self._rows:
            raise NoThing(thing)
        return list(self._rows[thing])

    def width(self):
        """Return the length of the rows."""
        return max([len(row) for row in self._rows.values()], default=0)

    def over(self):
        """Return "two" or "whole"."""
        return self._over

    def __eq__(self, other):
        return isinstance(other, Rows) and self._rows == other._rows and self._over == other._over


def _checked_rows(rows, over):
    """Return the rows in the ascending order of the things; raise BadRows if they cannot be those of a Rows."""
    checked = {}
    things = sorted(rows)
    for thing in things:
        if not is_name(thing) or not is_row(rows[thing], over) or len(rows[thing]) != len(rows[things[0]]):
            raise BadRows(thing)
        checked[thing] = list(rows[thing])
    return checked


def is_row(value, over):
    """Tell whether a value of any kind is a row over two, or over whole."""
    if not isinstance(value, list) or len(value) > GREATEST_WIDTH:
        return False
    return all([is_integer(entry) and (over == "whole" or entry in (0, 1)) for entry in value])


class TwoRule:
    """The rule of the family of rows over two, each told as the mask of its places with 1."""

    def __init__(self, masks):
        self._masks = masks

    def rank_of(self, mask):
        """Return the rank of the rows of a mask of things."""
        return rank_over_two([self._masks[at] for at in bits_of(mask)])

    def rings_over(self, mask):
        """Return the rings that the rows make with a free mask, 0 for those that make none."""
        return rings_over_two(self._masks, bits_of(mask))


class WholeRule:
    """The rule of the family of rows over whole."""

    def __init__(self, rows):
        self._rows = rows

    def rank_of(self, mask):
        """Return the rank of the rows of a mask of things."""
        return rank_over_whole([self._rows[at] for at in bits_of(mask)])

    def rings_over(self, mask):
        """Return the rings that the rows make with a free mask, 0 for those that make none."""
        return rings_over_whole(self._rows, bits_of(mask))


def rows_family(rows):
    """Return the family of the things, in which those lots are free of which no sum is nought."""
    table = [rows.row(thing) for thing in rows.things()]
    if rows.over() == "whole":
        return Family(rows.things(), WholeRule(table))
    return Family(rows.things(), TwoRule([sum([entry << place for place, entry in enumerate(row)]) for row in table]))


def sum_of(rows, lot):
    """Return a nought sum of things of a lot, without a common divisor, or None."""
    check_lot(lot, rows.things())
    family = rows_family(rows)
    part = family.gathered(sorted(lot))
    for thing in sorted(lot):
        if thing not in part:
            return _nought_sum(rows, ring_of(family, part, thing))
    return None


def _nought_sum(rows, ring):
    """Return the nought sum of the things of a ring."""
    if rows.over() == "two":
        return {thing: 1 for thing in ring}
    return dict(zip(ring, nought_terms([rows.row(thing) for thing in ring])))


def sum_fault(rows, lot, given):
    """Tell by a word why a value of any kind is no right answer of sum_of, or return None if it is one."""
    check_lot(lot, rows.things())
    if not _is_sum(rows.over(), lot, given):
        return "form"
    if common_divisor(list(given.values())) > 1:
        return "divisor"
    return None if _is_nought(rows, given) else "row"


def _is_sum(over, lot, value):
    """Tell whether a value of any kind is a sum of things of a lot."""
    if not isinstance(value, dict) or not value:
        return False
    for thing, integer in value.items():
        if not isinstance(thing, str) or thing not in lot or not is_integer(integer) or integer == 0:
            return False
        if over == "two" and integer != 1:
            return False
    return True


def _is_nought(rows, terms):
    """Tell whether the row of a sum has zeros alone."""
    table = rows.rows()
    for place in range(rows.width()):
        if not _come_to_nought(rows.over(), [terms[thing] * table[thing][place] for thing in terms]):
            return False
    return True


def _come_to_nought(over, products):
    """Tell whether integers come to 0, over two to an even number."""
    total = sum(products)
    return total % 2 == 0 if over == "two" else total == 0


def written(rows, lot, thing):
    """Return a number, and the terms of a sum of a lot whose row is number times the row of a thing, or None."""
    check_lot(lot, rows.things())
    # Asked here, because a thing of the lot may be missing in the free part; ring_of asks whether it is a thing.
    if thing in lot:
        raise InLot(thing)
    family = rows_family(rows)
    ring = ring_of(family, family.gathered(sorted(lot)), thing)
    if ring is None:
        return None
    terms = _nought_sum(rows, ring)
    number = terms.pop(thing)
    if rows.over() == "two" or number < 0:
        return abs(number), terms
    return number, {other: -integer for other, integer in terms.items()}


def turned_rows(rows):
    """Return rows whose family is the turned one: at each place stands the nought sum of a thing and the first base."""
    family = rows_family(rows)
    base = family.base()
    outer = [thing for thing in rows.things() if thing not in base]
    sums = [_nought_sum(rows, ring_of(family, base, thing)) for thing in outer]
    table = {thing: [terms.get(thing, 0) for terms in sums] for thing in rows.things()}
    return Rows(table, over=rows.over())


def is_across(one, other):
    """Tell whether the products of the integers at each place of one rows and each place of another come to nought."""
    if one.things() != other.things():
        raise UnlikeThings()
    if one.over() != other.over():
        return False
    here, there = one.rows(), other.rows()
    for place in range(one.width()):
        for beyond in range(other.width()):
            if not _come_to_nought(one.over(), [here[thing][place] * there[thing][beyond] for thing in here]):
                return False
    return True
