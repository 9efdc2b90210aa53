"""Webs of places that are joined by ties, where a lot of ties is free if one cannot go round in it."""

from bothfree.checks import check_lot, first_wrong, is_name, sorted_places
from bothfree.errors import BadPlaces, BadTies, NoThing, TooMany
from bothfree.families import Family
from bothfree.masks import bits_of, outer_bits

MOST_WEB_PLACES = 16
MOST_TIES = 24


class Web:
    """Places and the ties that join two of them, or one with itself."""

    def __init__(self, places, ties):
        self._places = sorted_places(places, MOST_WEB_PLACES)
        self._ties = _checked_ties(ties, self._places)

    def places(self):
        """Return the sorted list of the places."""
        return list(self._places)

    def ties(self):
        """Return the dict from each tie to the tuple of its ends."""
        return dict(self._ties)

    def ends(self, tie):
        """Return the tuple of the ends of a tie."""
        if tie not in self._ties:
            raise NoThing(tie)
        return self._ties[tie]

    def __eq__(self, other):
        return isinstance(other, Web) and self._places == other._places and self._ties == other._ties


def _checked_ties(ties, places):
    """Return the ties in ascending order, with sorted ends; raise an error if they cannot be those of a web."""
    checked = {}
    for tie in sorted(ties):
        if not is_name(tie) or not _are_ends(ties[tie], places):
            raise BadTies(tie)
        one, other = sorted(ties[tie])
        checked[tie] = (one, other)
    if len(checked) > MOST_TIES:
        raise TooMany(MOST_TIES)
    return checked


def _are_ends(value, places):
    """Tell whether a value of any kind is a tuple of two places."""
    if not isinstance(value, tuple) or len(value) != 2:
        return False
    return all([isinstance(end, str) and end in places for end in value])


class Clumps:
    """Places that fall into fewer and fewer pieces while they are joined."""

    def __init__(self, places):
        self._above = {place: place for place in places}

    def top(self, place):
        """Return the place that stands for the whole piece of a place."""
        while self._above[place] != place:
            place = self._above[place]
        return place

    def unite(self, one, other):
        """Join two places; tell whether they were in different pieces."""
        upper = self.top(one)
        lower = self.top(other)
        self._above[lower] = upper
        return upper != lower


class TiesRule:
    """The rule of the family of a web."""

    def __init__(self, places, ends):
        self._places = places
        self._ends = ends

    def rank_of(self, mask):
        """Return the number of the ties of a mask that join different pieces, one tie after the other."""
        clumps = Clumps(self._places)
        joins = 0
        for at in bits_of(mask):
            one, other = self._ends[at]
            if clumps.unite(one, other):
                joins += 1
        return joins

    def rings_over(self, mask):
        """Return the rings that the ties make with a free mask, 0 for those that make none."""
        ways = {}
        for place in self._places:
            if place not in ways:
                self._spread(mask, place, ways)
        rings = [0] * len(self._ends)
        for at in outer_bits(mask, len(rings)):
            one, other = self._ends[at]
            if ways[one][0] == ways[other][0]:
                # The ties that both ways have in common lead out and back.
                rings[at] = (ways[one][1] ^ ways[other][1]) | (1 << at)
        return rings

    def _spread(self, mask, start, ways):
        """Put down, for all places that the ties of a free mask join with one, this one and the ties of the way."""
        ways[start] = (start, 0)
        waiting = [start]
        while waiting:
            place = waiting.pop()
            for at in bits_of(mask):
                one, other = self._ends[at]
                beyond = other if place == one else one
                if place in (one, other) and beyond not in ways:
                    ways[beyond] = (start, ways[place][1] | (1 << at))
                    waiting.append(beyond)


def ties_family(web):
    """Return the family of the ties of a web."""
    ties = web.ties()
    return Family(list(ties), TiesRule(web.places(), [ties[tie] for tie in sorted(ties)]))


def pieces(web, lot):
    """Return the pieces into which the places fall if only the ties of a lot join them."""
    check_lot(lot, web.ties())
    clumps = Clumps(web.places())
    for tie in lot:
        one, other = web.ends(tie)
        clumps.unite(one, other)
    found = {}
    for place in web.places():
        found.setdefault(clumps.top(place), []).append(place)
    return sorted(found.values())


def ring_in(web, lot):
    """Return a ring of ties of a lot in an order in which one goes round, or None."""
    check_lot(lot, web.ties())
    clumps = Clumps(web.places())
    ahead = []
    for tie in sorted(lot):
        one, other = web.ends(tie)
        if not clumps.unite(one, other):
            return [tie] + _way(web, ahead, other, one)
        ahead.append(tie)
    return None


def _way(web, forest, start, goal):
    """Return the ties of the way from one place to another, which a free lot of ties joins."""
    ways = {start: []}
    waiting = [start]
    while goal not in ways:
        place = waiting.pop()
        for tie in forest:
            one, other = web.ends(tie)
            beyond = other if place == one else one
            if place in (one, other) and beyond not in ways:
                ways[beyond] = ways[place] + [tie]
                waiting.append(beyond)
    return ways[goal]


def cut_of(web, side):
    """Return the ties that have just one end among some places."""
    places = web.places()
    wrong = first_wrong(side, lambda place: place in places)
    if wrong is not None:
        raise BadPlaces(wrong)
    ties = web.ties()
    return [tie for tie in sorted(ties) if (ties[tie][0] in side) != (ties[tie][1] in side)]


def is_cut(web, lot):
    """Tell whether the web falls into more pieces without a lot of ties, but not without fewer of them."""
    check_lot(lot, web.ties())
    family = ties_family(web)
    many = family.rank(family.things())
    rest = [tie for tie in family.things() if tie not in lot]
    return family.rank(rest) < many and all([family.rank(rest + [tie]) == many for tie in lot])
