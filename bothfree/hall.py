"""Halls: worlds that change by deeds, which can be undone and done again."""

from bothfree.both import both
from bothfree.counts import counts_family, over_full
from bothfree.deeds import world_behind
from bothfree.errors import NothingToRedo, NothingToUndo
from bothfree.game import who
from bothfree.hires import Hires, hires_family, short
from bothfree.many import fewest, most
from bothfree.one import heaviest_base
from bothfree.roads import Roads, cut_places, roads_family
from bothfree.rows import Rows, rows_family, sum_of
from bothfree.webs import Web, ring_in, ties_family


def _family_of(world):
    """Return the family of a world."""
    if isinstance(world, Web):
        return ties_family(world)
    if isinstance(world, Hires):
        return hires_family(world)
    if isinstance(world, Roads):
        return roads_family(world)
    return rows_family(world) if isinstance(world, Rows) else counts_family(world)


class Hall:
    """A world that changes by deeds, with its history.

    It keeps all worlds and the deeds between them; those behind the current world were undone.
    """

    def __init__(self, world):
        self._worlds = [world]
        self._deeds = []
        self._stand = 0

    @property
    def world(self):
        """Return the current world."""
        return self._worlds[self._stand]

    def do(self, deed):
        """Do a deed."""
        new = world_behind(self.world, deed)
        self._worlds = self._worlds[:self._stand + 1] + [new]
        self._deeds = self._deeds[:self._stand] + [_copied(deed)]
        self._stand += 1

    def __iadd__(self, other):
        self.do(other)
        return self

    def __len__(self):
        return len(self._deeds[:self._stand])

    def undo(self):
        """Take the last deed that stands back."""
        if self._stand == 0:
            raise NothingToUndo()
        self._stand -= 1

    def redo(self):
        """Do the deed again that was undone last."""
        if self._stand == len(self._deeds):
            raise NothingToRedo()
        self._stand += 1

    def record(self):
        """Return the list of the deeds that stand, the oldest first."""
        return [_copied(deed) for deed in self._deeds[:self._stand]]

    def worlds(self):
        """Yield the first world and the world behind each deed that stands."""
        for world in self._worlds[:self._stand + 1]:
            yield world

    def family(self):
        """Return the family of the current world."""
        return _family_of(self.world)

    def things(self):
        """Return the sorted list of the things."""
        return self.family().things()

    def rank(self, lot):
        """Return the rank of a lot."""
        return self.family().rank(lot)

    def is_free(self, lot):
        """Tell whether a lot is free."""
        return self.family().is_free(lot)

    def is_base(self, lot):
        """Tell whether a lot is a base."""
        return self.family().is_base(lot)

    def span(self, lot):
        """Return the span of a lot."""
        return self.family().span(lot)

    def base(self):
        """Return the first base."""
        return self.family().base()

    def stuck(self):
        """Return the things that are in no base."""
        return self.family().stuck()

    def sure(self):
        """Return the things that are in every base."""
        return self.family().sure()

    def why(self, lot):
        """Return what shows that a lot is not free, in the way of the current world, or None if it is free."""
        world = self.world
        if isinstance(world, Web):
            return ring_in(world, lot)
        if isinstance(world, Hires):
            return short(world, lot)
        if isinstance(world, Roads):
            return cut_places(world, lot)
        return sum_of(world, lot) if isinstance(world, Rows) else over_full(world, lot)

    def best(self, weights):
        """Return a base with the greatest weight."""
        return heaviest_base(self.family(), weights)

    def fewest(self):
        """Return the least number of lots of a cover, or None if there is none."""
        return fewest(self.family())

    def most(self):
        """Return the greatest number of bases of a pack, or None if the empty lot is a base."""
        return most(self.family())

    def who(self, mark):
        """Return the player who wins the game with a mark even as the second one, or first."""
        return who(self.family(), mark)

    def against(self, world):
        """Return a greatest lot that is free in this world and in another one, and a lot that shows it."""
        return both(self.family(), _family_of(world))

    def moved(self):
        """Return the things that the last deed that stands made go out of the first base, and those that came in."""
        if self._stand == 0:
            return [], []
        before = _family_of(self._worlds[self._stand - 1]).base()
        after = self.base()
        gone = [thing for thing in before if thing not in after]
        return gone, [thing for thing in after if thing not in before]

    def trial(self, steps):
        """Return the ranks of all things behind each one of some steps, which are done by a twin."""
        probe = self.twin()
        ranks = []
        for step in steps:
            if step == ("undo",):
                probe.undo()
            elif step == ("redo",):
                probe.redo()
            else:
                probe.do(step)
            ranks.append(probe.rank(probe.things()))
        return ranks

    def twin(self):
        """Return a new hall with the same history."""
        other = Hall(self.world)
        other._worlds = list(self._worlds)
        other._deeds = list(self._deeds)
        other._stand = self._stand
        return other


def _copied(deed):
    """Return a deed with new lists."""
    return tuple([list(part) if isinstance(part, list) else part for part in deed])
