"""Counts: things in rooms, where a lot is free if no room has more things of it than its number tells."""

from bothfree.checks import MOST_THINGS, check_lot, first_wrong, is_integer, is_lot, sorted_things
from bothfree.errors import BadRooms, CrossedRooms, NotFree
from bothfree.families import Family
from bothfree.masks import bits_of, outer_bits, size_of

MOST_ROOMS = 60


class Counts:
    """Things, and rooms of things with a number each; of two rooms that share a thing, one holds the other one."""

    def __init__(self, things, rooms):
        self._things = sorted_things(things, MOST_THINGS)
        self._rooms = _checked_rooms(rooms, self._things)

    def things(self):
        """Return the sorted list of the things."""
        return list(self._things)

    def rooms(self):
        """Return the list of the rooms, tuples of a sorted lot and a number."""
        return [(list(lot), number) for lot, number in self._rooms]

    def __eq__(self, other):
        return isinstance(other, Counts) and self._things == other._things and self._rooms == other._rooms


def _checked_rooms(rooms, things):
    """Return the rooms with sorted lots; raise BadRooms or CrossedRooms if they cannot be those of a counts."""
    if len(rooms) > MOST_ROOMS:
        raise BadRooms(-1)
    for index, room in enumerate(rooms):
        if not _is_room(room, things):
            raise BadRooms(index)
    for one, (lot, _) in enumerate(rooms):
        for other in range(one + 1, len(rooms)):
            if are_crossed(lot, rooms[other][0]):
                raise CrossedRooms(one, other)
    return [(sorted(lot), number) for lot, number in rooms]


def are_crossed(lot, other):
    """Tell whether two lots share a thing and neither has all things of the other one."""
    shared = _shared(lot, other)
    return shared > 0 and shared not in (len(lot), len(other))


def _is_room(value, things):
    """Tell whether a value of any kind is a tuple of a lot of these things and an integer from 0 on."""
    if not isinstance(value, tuple) or len(value) != 2:
        return False
    return is_lot(value[0], things) and is_integer(value[1]) and value[1] >= 0


class CountsRule:
    """The rule of the family of a counts.

    Its rooms, of many things, are tuples of a mask, a number and an index; inner ones stand ahead of outer ones.
    """

    def __init__(self, many, rooms):
        self._many = many
        self._rooms = rooms

    def rank_of(self, mask):
        """Return the number of things of a mask that the rooms leave."""
        return size_of(self.bound(mask)[0])

    def rings_over(self, mask):
        """Return the rings that the things make with a free mask, 0 for those that make none."""
        tight_rooms = [room for room, number, _ in self._rooms if size_of(mask & room) == number]
        rings = [0] * self._many
        for at in outer_bits(mask, self._many):
            own = [room for room in tight_rooms if room >> at & 1]
            if own:
                # The innermost of the tight rooms of a thing is within all others.
                rings[at] = (mask & own[0]) | (1 << at)
        return rings

    def bound(self, mask):
        """Return a greatest free part of a mask, and the dict from the indexes to the masks of rooms that show it.

        From room to room, the things that are too many are taken out. The last rooms that took some out have no
        common thing; they have just as many things of the part as their numbers tell, and no thing outside is lost.
        """
        chosen = {}
        for room, number, index in self._rooms:
            inside = mask & room
            spare = size_of(inside) - number
            if spare > 0:
                mask -= sum([1 << at for at in bits_of(inside)[:spare]])
                chosen = {other: chosen[other] for other in chosen if not chosen[other] & room}
                chosen[index] = room
        return mask, chosen


def _rule_of(counts):
    """Return the rule of the family of a counts."""
    bits = {thing: 1 << at for at, thing in enumerate(counts.things())}
    rooms = []
    for index, (lot, number) in enumerate(counts.rooms()):
        rooms.append((sum([bits[thing] for thing in lot]), number, index))
    return CountsRule(len(bits), sorted(rooms, key=lambda room: size_of(room[0])))


def counts_family(counts):
    """Return the family of the things, in which those lots are free that no room has too many things of."""
    return Family(counts.things(), _rule_of(counts))


def over_full(counts, lot):
    """Return the first index of a room that has more things of a lot than its number tells, or None."""
    check_lot(lot, counts.things())
    for index, (room, number) in enumerate(counts.rooms()):
        if _shared(room, lot) > number:
            return index
    return None


def tight(counts, lot):
    """Return the indexes of the rooms that have just as many things of a free lot as their numbers tell."""
    if over_full(counts, lot) is not None:
        raise NotFree()
    return [index for index, (room, number) in enumerate(counts.rooms()) if _shared(room, lot) == number]


def _shared(room, lot):
    """Return the number of things of a lot that are in a room."""
    return len([thing for thing in lot if thing in room])


def room_bound(counts, lot):
    """Return a greatest free lot of things of a lot, and the indexes of rooms that show that none is greater."""
    family = counts_family(counts)
    part, chosen = _rule_of(counts).bound(family.mask_of(lot))
    return family.lot_of(part), sorted(chosen)


def room_fault(counts, lot, part, chosen):
    """Tell by a word why two values of any kind are no right answer of room_bound, or return None if they are one."""
    check_lot(lot, counts.things())
    if not is_lot(part, lot):
        return "part"
    if over_full(counts, part) is not None:
        return "free"
    if not _are_apart(counts, chosen):
        return "rooms"
    rooms = [counts.rooms()[index] for index in chosen]
    beside = [thing for thing in lot if not any([thing in room for room, _ in rooms])]
    return None if len(part) == sum([number for _, number in rooms]) + len(beside) else "many"


def _are_apart(counts, value):
    """Tell whether a value of any kind is a list of unlike indexes of rooms of which no two share a thing."""
    rooms = counts.rooms()
    if not isinstance(value, list):
        return False
    if first_wrong(value, lambda index: is_integer(index) and 0 <= index < len(rooms)) is not None:
        return False
    things = [thing for index in value for thing in rooms[index][0]]
    return len(things) == len(set(things))
