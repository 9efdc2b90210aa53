"""The game: two players take things by turns; one of them wants a mark in the span of what he has taken."""

from bothfree.checks import is_lot, is_strings
from bothfree.errors import BadPaper, BadPlayer, Gone, NoThing, NothingToUndo, SameThing
from bothfree.shares import Shares
from bothfree.turns import drawn_in, turned, without

PLAYERS = ("joiner", "cutter")
OPPONENTS = {"joiner": "cutter", "cutter": "joiner"}


def _check_mark(family, mark):
    """Raise NoThing unless a mark is a thing of a family."""
    if mark not in family:
        raise NoThing(mark)


def _side_of(family, player):
    """Return the family in which the player's lots are joiner's lots.

    There, what the player takes is drawn in, and what the opponent takes is lost.
    """
    return family if player == "joiner" else turned(family)


def _shared(side, mark):
    """Return the things beside a mark, as many as possible in two free lots, and the index of the mark."""
    shares = Shares([side, side], [0, 0])
    at = side.things().index(mark)
    for other in range(len(side)):
        if other != at:
            shares.put(other, 0)
    return shares, at


def _lots_of(side, mark):
    """Return two lots without a common thing and without the mark that have the same span with it, or None."""
    shares, at = _shared(side, mark)
    crowd = shares.crowd(at)
    return [side.lot_of(lot & crowd) for lot in shares.lots()] if crowd else None


def _openings(side, mark):
    """Return the things that the player of a side can begin with to win, if the other one would win as the second.

    A thing that is drawn in is as good as a thing that stands there twice, once for each lot. So there has to be room
    for it once more, but not besides the mark.
    """
    shares, at = _shared(side, mark)
    spare = [other for other in range(len(side)) if other != at and not shares.crowd(other)]
    shares.put(at, 0)
    return [side.things()[other] for other in spare if shares.crowd(other)]


def who(family, mark):
    """Return the player who wins even as the second one, or first if whoever begins wins."""
    _check_mark(family, mark)
    for player in PLAYERS:
        if _lots_of(_side_of(family, player), mark) is not None:
            return player
    return "first"


def paper(family, mark):
    """Return what shows that who tells the right word."""
    word = who(family, mark)
    if word != "first":
        a, b = _lots_of(_side_of(family, word), mark)
        return word, a, b
    parts = []
    for player in PLAYERS:
        side = _side_of(family, player)
        thing = _openings(side, mark)[0]
        a, b = _lots_of(drawn_in(side, [thing]), mark)
        parts.append((thing, a, b))
    return word, parts[0], parts[1]


def paper_fault(family, mark, paper):
    """Tell by a word why a value of any kind is no right paper, or return None if it is one."""
    _check_mark(family, mark)
    if not _is_paper(paper):
        return "form"
    if paper[0] != "first":
        return _lots_fault(_side_of(family, paper[0]), mark, paper[1:])
    for player, (thing, a, b) in zip(PLAYERS, paper[1:]):
        if thing not in family or thing == mark:
            return "thing"
        fault = _lots_fault(drawn_in(_side_of(family, player), [thing]), mark, (a, b))
        if fault is not None:
            return fault
    return None


def _is_paper(value):
    """Tell whether a value of any kind has the form of a paper."""
    if not isinstance(value, tuple) or len(value) != 3:
        return False
    word, *parts = value
    if word == "first":
        return all([isinstance(part, tuple) and len(part) == 3 and isinstance(part[0], str)
                    and is_strings(part[1]) and is_strings(part[2]) for part in parts])
    return isinstance(word, str) and word in PLAYERS and all([is_strings(part) for part in parts])


def _lots_fault(side, mark, lots):
    """Tell by a word why two lists of strings are no joiner's lots of a family, or return None if they are."""
    if not all([is_lot(lot, side.things()) and mark not in lot for lot in lots]):
        return "lot"
    a, b = lots
    if any([thing in b for thing in a]):
        return "common"
    if not side.is_free(a) or not side.is_free(b):
        return "free"
    if side.span(a) != side.span(b):
        return "span"
    return None if mark in side.span(a) else "mark"


def answer(family, mark, paper, thing):
    """Return what the player of a paper takes when the opponent has taken a thing, what is left, and a paper for it."""
    if paper_fault(family, mark, paper) is not None or paper[0] == "first":
        raise BadPaper()
    if thing not in family:
        raise NoThing(thing)
    if thing == mark:
        raise SameThing(thing)
    player = paper[0]
    reply = _reply(_side_of(family, player), mark, paper[1:], thing)
    took = {player: [] if reply is None else [reply], OPPONENTS[player]: [thing]}
    left = _left_of(family, took)
    a, b = _lots_of(_side_of(left, player), mark)
    return reply, left, (player, a, b)


def _left_of(family, took):
    """Return the family that is left behind what the players took."""
    return drawn_in(without(family, took["cutter"]), took["joiner"])


def _reply(side, mark, lots, thing):
    """Return what the player of two lots takes when the opponent has taken a thing, or None if nothing is left."""
    for one, other in (lots, lots[::-1]):
        if thing in one:
            rest = [more for more in one if more != thing]
            return [new for new in other if side.is_free(rest + [new])][0]
    # Whatever is taken besides never does harm.
    left = [more for more in side.things() if more not in (mark, thing)]
    return left[0] if left else None


class Play:
    """A game that is played: a family and its mark, and what was taken so far."""

    def __init__(self, family, mark, begins):
        _check_mark(family, mark)
        _check_player(begins)
        self._family = family
        self._mark = mark
        self._begins = begins
        self._takes = []

    def turn(self):
        """Return the player whose turn it is, or None if nothing is left."""
        return self._player_at(len(self._takes)) if self.left() else None

    def _player_at(self, index):
        """Return the player who takes behind so many takes."""
        return OPPONENTS[self._begins] if index & 1 else self._begins

    def left(self):
        """Return the sorted list of the things that are left, without the mark."""
        return [thing for thing in self._family.things() if thing != self._mark and thing not in self._takes]

    def taken(self, player):
        """Return the list of the things that a player has taken, in their order."""
        _check_player(player)
        return [thing for index, thing in enumerate(self._takes) if self._player_at(index) == player]

    def __len__(self):
        return len(self._takes)

    def take(self, thing):
        """Let the player whose turn it is take a thing."""
        if thing not in self._family:
            raise NoThing(thing)
        if thing == self._mark:
            raise SameThing(thing)
        if thing in self._takes:
            raise Gone(thing)
        self._takes.append(thing)

    def undo(self):
        """Take the last take back."""
        if not self._takes:
            raise NothingToUndo()
        self._takes.pop()

    def winner(self):
        """Return the player who has won, or None if that is not settled."""
        own = self.taken("joiner")
        if self._mark in self._family.span(own):
            return "joiner"
        return None if self._mark in self._family.span(own + self.left()) else "cutter"

    def now(self):
        """Return the player who can win from here against every play."""
        word = who(self._position(), self._mark)
        return self.turn() if word == "first" else word

    def _position(self):
        """Return the family that is left."""
        return _left_of(self._family, {player: self.taken(player) for player in PLAYERS})

    def best(self):
        """Return a thing behind whose taking the player whose turn it is can still win, or None."""
        player = self.turn()
        if player is None or self.now() != player:
            return None
        position = self._position()
        if who(position, self._mark) == player:
            return self.left()[0]
        return _openings(_side_of(position, player), self._mark)[0]


def _check_player(name):
    """Raise BadPlayer unless a string is the name of a player."""
    if name not in PLAYERS:
        raise BadPlayer(name)
