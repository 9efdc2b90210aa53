"""What the tests share: families by plain search, sample worlds, and a look at errors."""

from itertools import combinations, product
from random import Random

from bothfree.errors import LotError
from bothfree.families import listed
from bothfree.hires import Hires, hires_family
from bothfree.webs import Web, ties_family

NAMES = ["a", "b", "c", "d", "e", "f", "g", "h", "i", "j", "k", "l", "m",
         "n", "o", "p", "q", "r", "s", "t", "u", "v", "w", "x", "y", "z"]

# Values of any kind that are neither a name, nor an integer, nor a tuple, nor a list.
ODD_VALUES = [None, True, False, b"a", {"a": 1}, {"a"}, frozenset({"a"}), range(2), "", "A", "a1", "abcdefghi"]


def nested(kind):
    """Return a list or a tuple that is nested 90 deep."""
    value = kind(["a", "b"])
    for _ in range(89):
        value = kind([value])
    return value


def lots_of(things):
    """Return all lots of things, those with fewer things first, those with the same number in sorted order."""
    return [list(lot) for many in range(len(things) + 1) for lot in combinations(sorted(things), many)]


class Searched:
    """A family by the words of the document alone: its things and the set of its free lots."""

    def __init__(self, things, is_free):
        self.things = sorted(things)
        self.free = {tuple(lot) for lot in lots_of(things) if is_free(lot)}

    def is_free(self, lot):
        return tuple(sorted(lot)) in self.free

    def rank(self, lot):
        return max(len(free) for free in self.free if set(free) <= set(lot))

    def span(self, lot):
        return [thing for thing in self.things if self.rank(set(lot) | {thing}) == self.rank(lot)]

    def free_lots(self):
        return [lot for lot in lots_of(self.things) if self.is_free(lot)]

    def bases(self):
        most = max(len(free) for free in self.free)
        return sorted(list(free) for free in self.free if len(free) == most)

    def is_ring(self, lot):
        if self.is_free(lot):
            return False
        return all(self.is_free([other for other in lot if other != thing]) for thing in lot)

    def rings(self):
        return [lot for lot in lots_of(self.things) if self.is_ring(lot)]

    def stuck(self):
        return [thing for thing in self.things if not any(thing in base for base in self.bases())]

    def sure(self):
        return [thing for thing in self.things if all(thing in base for base in self.bases())]


def fallen_pieces(places, ends):
    """Return the pieces, as sorted lists, into which places fall that only these pairs of ends join."""
    left = set(places)
    found = []
    while left:
        piece = {min(left)}
        more = True
        while more:
            new = {b for pair in ends for a, b in (pair, pair[::-1]) if a in piece} - piece
            piece |= new
            more = bool(new)
        found.append(sorted(piece))
        left -= piece
    return sorted(found)


def goes_round(web, lot):
    """Tell whether one can go round in a lot of ties: some tie joins what the others of the lot join already."""
    ties = web.ties()
    for tie in lot:
        others = [ties[other] for other in lot if other != tie]
        a, b = ties[tie]
        if any(a in piece and b in piece for piece in fallen_pieces(web.places(), others)):
            return True
    return False


def can_be_hired(hires, lot):
    """Tell whether a lot of people can be hired, by all ways to give each one an own job."""
    return any(len(set(jobs)) == len(jobs) for jobs in product(*[hires.jobs_of(person) for person in lot]))


def searched_web(web):
    return Searched(list(web.ties()), lambda lot: not goes_round(web, lot))


def searched_hires(hires):
    return Searched(hires.people(), lambda lot: can_be_hired(hires, lot))


def some_webs():
    """Return webs of many forms with at most 7 ties."""
    webs = [Web(["a"], {}), Web(["a"], {"x": ("a", "a"), "y": ("a", "a")}),
            Web(["a", "b"], {"x": ("a", "b"), "y": ("b", "a"), "z": ("b", "b")}), triangle_web()]
    chance = Random(11)
    for _ in range(14):
        places = NAMES[:chance.randint(1, 6)]
        many = chance.randint(1, 7)
        webs.append(Web(places, {name: (chance.choice(places), chance.choice(places)) for name in NAMES[-many:]}))
    return webs


def some_hires():
    """Return hires of many forms with at most 6 people."""
    hires = [Hires([], {}), Hires(["ann"], {"ann": []}), bakers()]
    chance = Random(12)
    for _ in range(14):
        people = NAMES[:chance.randint(1, 6)]
        jobs = NAMES[3:3 + chance.randint(1, 6)]
        most = min(3, len(jobs))
        hires.append(Hires(people, {name: chance.sample(jobs, chance.randint(0, most)) for name in people}))
    return hires


def some_listed():
    """Return pairs of things and bases."""
    return [([], [[]]), (["a"], [[]]), (["a"], [["a"]]), (["a", "b", "c", "d"], [["a", "b"], ["a", "c"], ["b", "c"]]),
            (["a", "b", "c", "d", "e"], [list(lot) for lot in combinations("abcde", 3)]),
            (["a", "b", "c", "d"], [["a", "c"], ["a", "d"], ["b", "c"], ["b", "d"]])]


def some_families():
    """Return pairs of a family and the same one by plain search."""
    pairs = [(ties_family(web), searched_web(web)) for web in some_webs()]
    pairs += [(hires_family(hires), searched_hires(hires)) for hires in some_hires()]
    for things, lots in some_listed():
        known = [set(lot) for lot in lots]
        searched = Searched(things, lambda lot, known=known: any(set(lot) <= base for base in known))
        pairs.append((listed(things, lots), searched))
    return pairs


def triangle_web():
    """Return the web of the document's example."""
    return Web(["a", "b", "c"], {"x": ("a", "b"), "y": ("b", "c"), "z": ("a", "c"), "l": ("c", "c")})


def bakers():
    """Return the hires of the document's example."""
    return Hires(["ann", "bob", "cat"], {"ann": ["bake"], "bob": ["bake"], "cat": ["bake", "cook"]})


def even(many, rank):
    """Return a family of many things in which each lot of at most this many things is free.

    The people of a hires can all do the same jobs.
    """
    people = NAMES[:many]
    return hires_family(Hires(people, {person: NAMES[:rank] for person in people}))


class Telling:
    """Mixed into test cases: compares the error of a call with an error that is made by hand."""

    def raises(self, error, call, *arguments):
        with self.assertRaises(LotError) as caught:
            call(*arguments)
        self.assertEqual(told(caught.exception), told(error))


def told(error):
    """Return the class of an error and its attributes."""
    return error.__class__.__name__, vars(error)
