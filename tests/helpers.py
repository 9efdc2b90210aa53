"""What the tests share: families by plain search, sample worlds, and a look at errors."""

from itertools import combinations, permutations, product
from math import prod
from random import Random

from bothfree.counts import Counts, counts_family
from bothfree.errors import LotError
from bothfree.families import listed
from bothfree.hires import Hires, hires_family
from bothfree.one import all_heaviest
from bothfree.roads import Roads, roads_family
from bothfree.rows import Rows, rows_family
from bothfree.webs import Web, ties_family

NAMES = ["a", "b", "c", "d", "e", "f", "g", "h", "i", "j", "k", "l", "m",
         "n", "o", "p", "q", "r", "s", "t", "u", "v", "w", "x", "y", "z"]

# Values of any kind that are neither a name, nor an integer, nor a tuple, nor a list.
ODD_VALUES = [None, True, False, b"a", {"a": 1}, {"a"}, frozenset({"a"}), range(2), "", "A", "a1", "abcdefghi"]


def nested(kind):
    """Return a list or a tuple that is nested 90 deep."""
    value = kind(["a", "b"])
    for _ in range(89):
        value = kind([value])
    return value


def lots_of(things):
    """Return all lots of things, those with fewer things first, those with the same number in sorted order."""
    return [list(lot) for many in range(len(things) + 1) for lot in combinations(sorted(things), many)]


class Searched:
    """A family by the words of the document alone: its things and the set of its free lots."""

    def __init__(self, things, is_free):
        self.things = sorted(things)
        self.free = {tuple(lot) for lot in lots_of(things) if is_free(lot)}

    def is_free(self, lot):
        return tuple(sorted(lot)) in self.free

    def rank(self, lot):
        return max(len(free) for free in self.free if set(free) <= set(lot))

    def span(self, lot):
        return [thing for thing in self.things if self.rank(set(lot) | {thing}) == self.rank(lot)]

    def free_lots(self):
        return [lot for lot in lots_of(self.things) if self.is_free(lot)]

    def bases(self):
        most = max(len(free) for free in self.free)
        return sorted(list(free) for free in self.free if len(free) == most)

    def is_ring(self, lot):
        if self.is_free(lot):
            return False
        return all(self.is_free([other for other in lot if other != thing]) for thing in lot)

    def rings(self):
        return [lot for lot in lots_of(self.things) if self.is_ring(lot)]

    def stuck(self):
        return [thing for thing in self.things if not any(thing in base for base in self.bases())]

    def sure(self):
        return [thing for thing in self.things if all(thing in base for base in self.bases())]


def fallen_pieces(places, ends):
    """Return the pieces, as sorted lists, into which places fall that only these pairs of ends join."""
    left = set(places)
    found = []
    while left:
        piece = {min(left)}
        more = True
        while more:
            new = {b for pair in ends for a, b in (pair, pair[::-1]) if a in piece} - piece
            piece |= new
            more = bool(new)
        found.append(sorted(piece))
        left -= piece
    return sorted(found)


def goes_round(web, lot):
    """Tell whether one can go round in a lot of ties: some tie joins what the others of the lot join already."""
    ties = web.ties()
    for tie in lot:
        others = [ties[other] for other in lot if other != tie]
        a, b = ties[tie]
        if any(a in piece and b in piece for piece in fallen_pieces(web.places(), others)):
            return True
    return False


def can_be_hired(hires, lot):
    """Tell whether a lot of people can be hired, by all ways to give each one an own job."""
    return any(len(set(jobs)) == len(jobs) for jobs in product(*[hires.jobs_of(person) for person in lot]))


def all_roads(roads, door):
    """Return all roads of a door, by going on from place to place in all ways."""
    found = [[door]] if door in roads.gates() else []
    waiting = [[door]]
    while waiting:
        road = waiting.pop()
        for ahead, place in roads.steps():
            if ahead == road[-1] and place not in road:
                waiting.append([*road, place])
                if place in roads.gates():
                    found.append([*road, place])
    return found


def can_go(roads, lot, taken=frozenset()):
    """Tell whether the doors of a lot have roads without a common place and without places that are taken."""
    if not lot:
        return True
    choices = [road for road in all_roads(roads, lot[0]) if not taken & set(road)]
    return any(can_go(roads, lot[1:], taken | set(road)) for road in choices)


def determinant(rows):
    """Return the determinant of a square of integers, by all orders of its columns."""
    total = 0
    for order in permutations(range(len(rows))):
        sign = (-1) ** sum(one > other for one, other in combinations(order, 2))
        total += sign * prod(rows[at][column] for at, column in enumerate(order))
    return total


def no_sum_is_nought(rows, lot):
    """Tell whether no sum of things of a lot is nought: over two by all sums, over whole by all determinants."""
    table = [rows.row(thing) for thing in lot]
    if rows.over() == "two":
        sums = [part for many in range(1, len(lot) + 1) for part in combinations(table, many)]
        return not any(all(sum(column) % 2 == 0 for column in zip(*part)) for part in sums)
    squares = combinations(range(rows.width()), len(lot))
    return any(determinant([[row[place] for place in places] for row in table]) for places in squares)


def fits_rooms(counts, lot):
    """Tell whether each room has at most as many things of a lot as its number tells."""
    return all(len(set(room) & set(lot)) <= number for room, number in counts.rooms())


def searched_roads(roads):
    return Searched(roads.doors(), lambda lot: can_go(roads, lot))


def searched_rows(rows):
    return Searched(rows.things(), lambda lot: no_sum_is_nought(rows, lot))


def searched_counts(counts):
    return Searched(counts.things(), lambda lot: fits_rooms(counts, lot))


def searched_heaviest(searched, weights):
    """Return the family whose bases are the heaviest bases of a family by plain search."""
    heaviest = heaviest_of_all(searched.bases(), weights)
    return Searched(searched.things, lambda lot: any(set(lot) <= set(base) for base in heaviest))


def heaviest_of_all(lots, weights):
    """Return those of some lots that have the greatest weight."""
    most = max(sum(weights[thing] for thing in lot) for lot in lots)
    return [lot for lot in lots if sum(weights[thing] for thing in lot) == most]


def searched_web(web):
    return Searched(list(web.ties()), lambda lot: not goes_round(web, lot))


def searched_hires(hires):
    return Searched(hires.people(), lambda lot: can_be_hired(hires, lot))


def some_webs():
    """Return webs of many forms with at most 7 ties."""
    webs = [Web(["a"], {}), Web(["a"], {"x": ("a", "a"), "y": ("a", "a")}),
            Web(["a", "b"], {"x": ("a", "b"), "y": ("b", "a"), "z": ("b", "b")}), triangle_web()]
    chance = Random(11)
    for _ in range(14):
        places = NAMES[:chance.randint(1, 6)]
        many = chance.randint(1, 7)
        webs.append(Web(places, {name: (chance.choice(places), chance.choice(places)) for name in NAMES[-many:]}))
    return webs


def some_hires():
    """Return hires of many forms with at most 6 people."""
    hires = [Hires([], {}), Hires(["ann"], {"ann": []}), bakers()]
    chance = Random(12)
    for _ in range(14):
        people = NAMES[:chance.randint(1, 6)]
        jobs = NAMES[3:3 + chance.randint(1, 6)]
        most = min(3, len(jobs))
        hires.append(Hires(people, {name: chance.sample(jobs, chance.randint(0, most)) for name in people}))
    return hires


def some_roads():
    """Return roads of many forms with at most 6 doors."""
    roads = [Roads(["a"], [], [], []), Roads(["a"], [], ["a"], []), Roads(["a"], [], ["a"], ["a"]), crossing(),
             Roads(NAMES[:6], [("a", "c"), ("b", "c"), ("c", "d"), ("d", "e"), ("d", "f")], ["a", "b"], ["e", "f"]),
             Roads(NAMES[:3], [("a", "b"), ("b", "a"), ("b", "c"), ("c", "a")], ["a", "b", "c"], ["b"])]
    chance = Random(13)
    for _ in range(14):
        places = NAMES[:chance.randint(2, 7)]
        steps = [(one, other) for one in places for other in places if one != other]
        steps = chance.sample(steps, min(len(steps), chance.randint(0, 11)))
        doors = chance.sample(places, chance.randint(1, min(6, len(places))))
        roads.append(Roads(places, steps, doors, chance.sample(places, chance.randint(0, 3) % (len(places) + 1))))
    return roads


def some_rows():
    """Return rows of many forms with at most 6 things, over two and over whole."""
    rows = [Rows({}, over="two"), Rows({}, over="whole"), Rows({"a": [], "b": []}, over="two"),
            Rows({"a": [], "b": []}, over="whole"), Rows({"a": [0], "b": [1], "c": [1]}, over="two"), slopes(),
            Rows({"a": [10 ** 40, 1], "b": [1, 10 ** 40], "c": [3 * 10 ** 40, 3], "d": [-6, 9]}, over="whole"),
            Rows({"a": [1, 1, 0], "b": [1, 0, 1], "c": [0, 1, 1], "d": [1, 1, 1]}, over="two"),
            Rows({"a": [1, 1, 0], "b": [1, 0, 1], "c": [0, 1, 1], "d": [1, 1, 1]}, over="whole")]
    chance = Random(14)
    for at in range(16):
        width = chance.randint(1, 4)
        over = ("two", "whole")[at % 2]
        low, high = (0, 1) if over == "two" else (-chance.randint(1, 4), 4)
        table = {name: [chance.randint(low, high) for _ in range(width)] for name in NAMES[:chance.randint(1, 6)]}
        if at % 4 == 3:
            # Of less rank than their width, and with common divisors.
            table = {name: [6 * row[0], -4 * row[0], *row[1:]] for name, row in table.items()}
        rows.append(Rows(table, over=over))
    return rows


def some_counts():
    """Return counts of many forms with at most 6 things."""
    counts = [Counts([], []), Counts([], [([], 0), ([], 3)]), Counts(["a"], []), Counts(["a", "b"], [(["a"], 0)]), rooms(),
              Counts(["a", "b", "c"], [(["c", "a"], 2), (["a", "c"], 1), (["c", "a"], 1), ([], 0)]),
              Counts(NAMES[:6], [(NAMES[:6], 3), (["a", "b", "c"], 2), (["b", "c"], 1), (["d", "e"], 1), (["f"], 0)])]
    chance = Random(15)
    for _ in range(14):
        things = NAMES[:chance.randint(1, 6)]
        shuffled = chance.sample(things, len(things))
        # Stretches of one order that do not cross one another.
        stretches = []
        for _ in range(chance.randint(1, 8)):
            low = chance.randint(0, len(things))
            high = chance.randint(low, len(things))
            new = set(shuffled[low:high])
            if all(not new & old or new <= old or old <= new for old in stretches):
                stretches.append(new)
        counts.append(Counts(things, [(chance.sample(sorted(lot), len(lot)), chance.randint(0, 3)) for lot in stretches]))
    return counts


def some_weights(things, chance):
    """Return dicts of weights for things: equal ones, unlike ones, ones below 0 and great ones."""
    ranges = [(0, 0), (-1, 1), (-3, 3), (1, 2), (-9, -1), (-10 ** 30, 10 ** 30)]
    return [{thing: chance.randint(low, high) for thing in things} for low, high in ranges]


def some_listed():
    """Return pairs of things and bases."""
    return [([], [[]]), (["a"], [[]]), (["a"], [["a"]]), (["a", "b", "c", "d"], [["a", "b"], ["a", "c"], ["b", "c"]]),
            (["a", "b", "c", "d", "e"], [list(lot) for lot in combinations("abcde", 3)]),
            (["a", "b", "c", "d"], [["a", "c"], ["a", "d"], ["b", "c"], ["b", "d"]])]


def world_families():
    """Return pairs of a family of a world, a listed one or one of the heaviest bases, and the same by plain search."""
    pairs = [(ties_family(web), searched_web(web)) for web in some_webs()]
    pairs += [(hires_family(hires), searched_hires(hires)) for hires in some_hires()]
    pairs += [(roads_family(roads), searched_roads(roads)) for roads in some_roads()]
    pairs += [(rows_family(rows), searched_rows(rows)) for rows in some_rows()]
    pairs += [(counts_family(counts), searched_counts(counts)) for counts in some_counts()]
    for things, lots in some_listed():
        known = [set(lot) for lot in lots]
        searched = Searched(things, lambda lot, known=known: any(set(lot) <= base for base in known))
        pairs.append((listed(things, lots), searched))
    chance = Random(16)
    for family, searched in pairs[3::7]:
        weights = {thing: chance.randint(-2, 2) for thing in family.things()}
        pairs.append((all_heaviest(family, weights), searched_heaviest(searched, weights)))
    return pairs


def triangle_web():
    """Return the web of the document's example."""
    return Web(["a", "b", "c"], {"x": ("a", "b"), "y": ("b", "c"), "z": ("a", "c"), "l": ("c", "c")})


def bakers():
    """Return the hires of the document's example."""
    return Hires(["ann", "bob", "cat"], {"ann": ["bake"], "bob": ["bake"], "cat": ["bake", "cook"]})


def crossing():
    """Return the roads of the document's example."""
    return Roads(["a", "b", "c", "d"], [("a", "c"), ("b", "c"), ("c", "d")], ["a", "b", "d"], ["d"])


def slopes():
    """Return the rows over whole of the document's example."""
    return Rows({"a": [1, 0], "b": [0, 1], "c": [2, 4]}, over="whole")


def rooms():
    """Return the counts of the document's example."""
    return Counts(["a", "b", "c"], [(["a", "b"], 1), (["a", "b", "c"], 2)])


def even(many, rank):
    """Return a family of many things in which each lot of at most this many things is free.

    The people of a hires can all do the same jobs.
    """
    people = NAMES[:many]
    return hires_family(Hires(people, {person: NAMES[:rank] for person in people}))


class Telling:
    """Mixed into test cases: compares the error of a call with an error that is made by hand."""

    def raises(self, error, call, *arguments):
        with self.assertRaises(LotError) as caught:
            call(*arguments)
        self.assertEqual(told(caught.exception), told(error))


def told(error):
    """Return the class of an error and its attributes."""
    return error.__class__.__name__, vars(error)
