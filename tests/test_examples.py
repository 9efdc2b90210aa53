"""The examples of the document: each block is a session, whose last line is the last result or the error."""

import ast
import unittest

import bothfree.errors
from bothfree.errors import LotError

SESSIONS = r"""
>>> from bothfree.rows import Rows, rows_family, sum_of, written
>>> rows = Rows({"a": [1, 0], "b": [0, 1], "c": [2, 4]}, over="whole")
>>> [rows_family(rows).rank(["c", "a"]), sum_of(rows, ["a", "b"]), written(rows, ["b", "a"], "c"), rows.width()]
[2, None, (1, {'a': 2, 'b': 4}), 2]

>>> from bothfree.rows import Rows, rows_family, sum_of, turned_rows
>>> rows = Rows({"a": [1, 0], "b": [1, 1], "c": [0, 1]}, over="two")
>>> [rows_family(rows).span(["a", "b"]), sum_of(rows, ["a", "b", "c"]), turned_rows(rows).rows()]
[['a', 'b', 'c'], {'a': 1, 'b': 1, 'c': 1}, {'a': [1], 'b': [1], 'c': [1]}]

>>> from bothfree.rows import Rows
>>> Rows({"a": [1, 0], "b": [1, 2]}, over="two")
raises BadRows('b')

>>> from bothfree.counts import Counts, counts_family, over_full, room_fault, tight
>>> counts = Counts(["a", "b", "c"], [(["b", "a"], 1), (["a", "b", "c"], 2)])
>>> [counts_family(counts).rank(["a", "b", "c"]), over_full(counts, ["b", "a"]), tight(counts, ["c", "a"]), counts.rooms()[0]]
[2, 0, [0, 1], (['a', 'b'], 1)]

>>> from bothfree.counts import Counts, room_fault
>>> counts = Counts(["a", "b", "c"], [(["b", "a"], 1), (["a", "b", "c"], 2)])
>>> [room_fault(counts, ["a", "b", "c"], ["c", "b"], [0]), room_fault(counts, ["a", "b"], ["b"], []), room_fault(counts, ["a"], ["c"], [])]
[None, 'many', 'part']

>>> from bothfree.counts import Counts
>>> Counts(["a", "b", "c"], [(["a", "b"], 1), (["b", "c"], 1)])
raises CrossedRooms(0, 1)

>>> from bothfree.counts import Counts, counts_family
>>> from bothfree.split import curve, heaviest_both, split_fault
>>> one = counts_family(Counts(["a", "b", "c"], [(["a", "b"], 1)]))
>>> other = counts_family(Counts(["a", "b", "c"], [(["b", "c"], 1)]))
>>> weights = {"a": 2, "b": 3, "c": 2}
>>> told = [curve(one, other, weights), heaviest_both(one, other, weights, 2), heaviest_both(one, other, weights, 3)]
>>> told + [split_fault(one, other, weights, ["c", "a"], {"a": 2, "b": 2, "c": 0}, {"a": 0, "b": 1, "c": 2})]
[[0, 3, 4], (4, ['a', 'c']), None, None]

>>> from bothfree.chains import count_swaps, nearer_swaps, partners, swaps_fault, twins
>>> from bothfree.counts import Counts, counts_family
>>> family = counts_family(Counts(["a", "b", "c", "d"], [(["a", "c"], 1), (["b", "d"], 1)]))
>>> told = [nearer_swaps(family, ["a", "b"], ["d", "c"]), count_swaps(family, ["a", "b"], ["c", "d"]), twins(family, ["b", "a"], ["c", "d"], "a")]
>>> told + [partners(family, ["a", "b"], ["c", "d"]), swaps_fault(family, ["a", "b"], ["c", "d"], [("a", "d")])]
[[('a', 'c'), ('b', 'd')], 2, ['c'], {'a': 'c', 'b': 'd'}, ('base', 0)]

>>> from bothfree.families import rings
>>> from bothfree.webs import Web, ties_family
>>> web = Web(["a", "b", "c"], {"x": ("a", "b"), "y": ("b", "c"), "z": ("a", "c"), "l": ("c", "c")})
>>> family = ties_family(web)
>>> (family.base(), family.stuck(), family.span(["y", "x"]), rings(family))
(['x', 'y'], ['l'], ['l', 'x', 'y', 'z'], [['l'], ['x', 'y', 'z']])

>>> from bothfree.families import listed
>>> listed(["a", "b", "c", "d"], [["a", "b"], ["c", "d"]])
raises BrokenBases(one=['a', 'b'], other=['c', 'd'], thing='a')

>>> from bothfree.one import base_fault, moves
>>> from bothfree.turns import cut_short, free_on
>>> family = cut_short(free_on(["x", "y", "z"]), 2)
>>> weights = {"x": 5, "y": 3, "z": 3}
>>> (moves(family, weights, ["x", "y"], "x"), base_fault(family, weights, ["y", "z"]))
((3, None), ('level', 5))

>>> from bothfree.hires import Hires, hire
>>> hires = Hires(["ann", "bob", "cat"], {"ann": ["bake"], "bob": ["bake"], "cat": ["bake", "cook"]})
>>> hire(hires, ["cat", "ann"]) == {"ann": "bake", "cat": "cook"}
True

>>> from bothfree.both import both, needed
>>> from bothfree.counts import Counts, counts_family
>>> one = counts_family(Counts(["a", "b", "c"], [(["a", "b"], 1), (["a", "b", "c"], 2)]))
>>> other = counts_family(Counts(["a", "b", "c"], [(["b", "c"], 1)]))
>>> (both(one, other)[0], needed(one, other))
(['a', 'c'], ['a', 'c'])

>>> from bothfree.counts import Counts, counts_family
>>> from bothfree.split import curve, heaviest_both
>>> one = counts_family(Counts(["a", "b", "c"], [(["a", "b"], 1)]))
>>> other = counts_family(Counts(["a", "b", "c"], [(["b", "c"], 1)]))
>>> weights = {"a": 2, "b": 3, "c": 2}
>>> (curve(one, other, weights), heaviest_both(one, other, weights, 1))
([0, 3, 4], (3, ['b']))

>>> from bothfree.many import fewest, most, thickness
>>> from bothfree.turns import cut_short, free_on
>>> family = cut_short(free_on(["ab", "ac", "bc"]), 2)
>>> (thickness(family)[:2], fewest(family), most(family))
((3, 2), 2, 1)

>>> from bothfree.game import who
>>> from bothfree.turns import cut_short, free_on
>>> who(cut_short(free_on(["a", "b", "c", "m"]), 2), "m")
'first'

>>> from bothfree.hall import Hall
>>> from bothfree.webs import Web
>>> hall = Hall(Web(["a", "b"], {"x": ("a", "b")}))
>>> hall.do(("tie", "y", "b", "a"))
>>> hall.do(("untie", "x"))
>>> (hall.moved(), len(hall))
((['x'], ['y']), 2)

>>> from bothfree.texts import read_web
>>> read_web("web\nplaces a b\ntie x b a")
raises NoText(line=3)
"""


def run(session):
    """Return what a session tells, and what it is to tell."""
    rows = session.strip().split("\n")
    names = {}
    expected = rows[-1]
    commands = [row[4:] for row in rows[:-1] if row.startswith(">>> ")]
    if rows[-1].startswith(">>> "):
        raise AssertionError("a session without a result")
    for command in commands[:-1]:
        exec(command, names)
    try:
        last = ast.parse(commands[-1]).body[0]
        told = eval(commands[-1], names) if isinstance(last, ast.Expr) else exec(commands[-1], names)
    except LotError as error:
        told = (error.__class__.__name__, list(vars(error).values()))
    if expected.startswith("raises "):
        error = eval(expected[7:], vars(bothfree.errors).copy())
        return told, (error.__class__.__name__, list(vars(error).values()))
    return told, eval(expected)


class Examples(unittest.TestCase):
    def test_all_sessions(self):
        sessions = SESSIONS.strip().split("\n\n")
        self.assertEqual(len(sessions), 18)
        for session in sessions:
            with self.subTest(session):
                told, expected = run(session)
                self.assertEqual(told, expected)


if __name__ == "__main__":
    unittest.main()
