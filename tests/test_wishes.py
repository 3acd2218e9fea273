"""nestweigh/wishes.py: points [3], [4], [5] and [49] to [52]."""

import random
import unittest
from math import factorial

from nestweigh.classes import count, listed
from nestweigh.errors import BadWish, TooMany, Unknown
from nestweigh.passage import comes
from nestweigh.texts import parse_world
from nestweigh.wishes import (
    count_granted,
    grant,
    holds,
    is_denied,
    is_granted,
    may_given,
    unmet,
)
from nestweigh.worlds import World
from nestweigh.yards import Yard
from tests import slow
from tests.support import WEIRD, Case, wrong_things

SHOWN = "shelf a\nshelf b\nbox k 3 in a\nbox m 2 in b\nbox n 1 in m\nbox t 1 in a"
# Three weights above each other: 1 (u, v, w), 4 (q, r, s) and 9 (y, z); x is nailed, f lies under a seal.
TOWER = (
    "shelf a\nshelf b\nshelf c sealed\nbox f 1 in c\nbox q 3 in y\nbox r 3 in z\nbox s 4 in a\nbox u 1 in q\n"
    "box v 1 in r\nbox w 1 in b\nbox x 2 in y nailed\nbox y 3 in a\nbox z 5 in b"
)
NO_WISHES = [
    (), ("in",), ("in", "k"), ("in", "k", "a", "a"), ("within", "n", "m", ""), ("on", "k", "a"), ("", "k", "a"),
    ("k", "in", "a"), ("In", "k", "a"), ("in", "a", "b"), ("within", "b", "a"), ("in", "z", "a"), ("in", "", "a"),
    ("in", "k", "z"), ("within", "k", ""), ("in", "k", "k"), ("within", "n", "n"), ("in", "no name", "a"),
    ("not", "k", "a"), ("may", "k", "a"),
]
NAMES = [f"b{number:02}" for number in range(12)]


def shown():
    return parse_world(SHOWN)


def tower():
    return parse_world(TOWER)


def wide():
    """Twelve boxes that all weigh the same, three on each shelf: 369600 worlds."""
    return World(Yard(list("stuv"), {name: 1 for name in NAMES}), dict(zip(NAMES, "sssuuutttvvv")))


def deep_and_wide():
    """Six heavy boxes on two shelves and a light one in each: far more than 400 worlds."""
    heavy, light = [f"h{at}" for at in range(6)], [f"l{at}" for at in range(6)]
    yard = Yard(["s", "t"], {**{name: 9 for name in heavy}, **{name: 1 for name in light}})
    return World(yard, {**{name: "st"[at % 2] for at, name in enumerate(heavy)}, **dict(zip(light, heavy))})


def four_hundred():
    """Two pools with 20 worlds each."""
    yard = Yard(["s", "t"], {name: 1 if at < 6 else 2 for at, name in enumerate(NAMES)})
    return World.from_row(yard, "sssttt" * 2)


def more_than_four_hundred():
    """420 worlds, the next count above 400 that a class has."""
    names = NAMES[:11]
    yard = Yard(["s", "t", "u"], {name: 1 if at < 2 else 2 if at < 4 else 3 for at, name in enumerate(names)})
    return World.from_row(yard, "st" + "st" + "sssstuu")


class Wishes(Case):
    """[49]: holds and unmet"""

    def test_direct_wishes(self):
        for box, holder, wanted in [
            ("k", "a", True), ("k", "b", False), ("n", "m", True), ("n", "b", False), ("n", "t", False),
            ("m", "n", False), ("t", "a", True),
        ]:
            self.assert_answer(wanted, holds, shown(), ("in", box, holder))

    def test_deep_wishes(self):
        for box, holder, wanted in [
            ("k", "a", True), ("k", "b", False), ("n", "m", True), ("n", "b", True), ("n", "a", False),
            ("m", "n", False), ("m", "b", True),
        ]:
            self.assert_answer(wanted, holds, shown(), ("within", box, holder))

    def test_unmet(self):
        wishes = [("in", "k", "b"), ("in", "n", "m"), ("within", "n", "a"), ("in", "k", "b"), ("within", "n", "b")]
        self.assert_answer([0, 2, 3], unmet, shown(), wishes)
        self.assert_answer([0, 2, 3], unmet, shown(), tuple(wishes))
        self.assert_answer([], unmet, shown(), [])
        self.assert_answer([], unmet, shown(), ())
        self.assert_answer(list(range(12)), unmet, shown(), [("in", "k", "m")] * 12)
        self.assert_answer([], unmet, shown(), [("within", "n", "b")] * 12)

    def test_what_is_not_a_wish(self):
        for wrong in NO_WISHES:
            self.assert_error(BadWish, {"at": 0}, holds, shown(), wrong)
            for at in range(3):
                wishes = [("in", "k", "b"), ("within", "n", "b")][:at] + [wrong] + [("in", "t", "a"), ()]
                for given in (wishes, tuple(wishes)):
                    self.assert_error(BadWish, {"at": at}, unmet, shown(), given)
                    self.assert_error(BadWish, {"at": at}, grant, shown(), given)
                    self.assert_error(BadWish, {"at": at}, count_granted, shown(), given)
                    self.assert_error(BadWish, {"at": at}, may_given, shown(), given, "k")
                    self.assert_error(BadWish, {"at": at}, is_granted, shown(), given, shown())
                    self.assert_error(BadWish, {"at": at}, is_denied, shown(), given, ("fixed", 0))

    def test_a_faulty_wish_goes_before_all_else(self):
        wishes = [("within", "b00", "s"), ("within", "b01", "s"), ("in", "b00", "b00")]
        self.assert_error(BadWish, {"at": 2}, grant, wide(), wishes)
        self.assert_error(BadWish, {"at": 2}, count_granted, wide(), wishes)
        self.assert_error(BadWish, {"at": 2}, may_given, wide(), wishes, "none")
        self.assert_error(BadWish, {"at": 2}, is_granted, wide(), wishes, shown())
        for paper in [(), (None,), ("cases", ())]:
            self.assert_error(BadWish, {"at": 2}, is_denied, wide(), wishes, paper)
        self.assert_error(BadWish, {"at": 1}, grant, tower(), [("in", "f", "a"), ("in", "f", "f")])


class Granting(Case):
    """[50], [52]: grant and is_granted"""

    def assert_granted(self, world, wishes):
        for given in (list(wishes), tuple(wishes)):
            told = grant(world, given)
            self.assert_answer(told, grant, world, given)
            self.assert_same(told[0], "granted")
            self.assertEqual(len(told), 2)
            self.assertTrue(comes(world, told[1]))
            self.assert_same([wish for wish in wishes if not holds(told[1], wish)], [])
            self.assert_answer(True, is_granted, world, given, told[1])

    def assert_denied(self, world, wishes, form):
        for given in (list(wishes), tuple(wishes)):
            told = grant(world, given)
            self.assert_answer(told, grant, world, given)
            self.assert_same((told[0], told[1][0], len(told)), ("denied", form, 2))
            self.assert_answer(True, is_denied, world, given, told[1])
        return told[1]

    def test_no_wishes(self):
        for world in (shown(), tower(), wide()):
            self.assert_granted(world, [])

    def test_direct_wishes(self):
        self.assert_granted(shown(), [("in", "k", "b")])
        self.assert_granted(shown(), [("in", "k", "b"), ("in", "n", "a"), ("in", "t", "m"), ("in", "m", "a")])
        self.assert_granted(tower(), [("in", "u", "b"), ("in", "q", "a"), ("in", "x", "y"), ("in", "f", "c")])
        self.assert_granted(tower(), [("in", "u", "b")] * 12)
        self.assert_granted(wide(), [("in", name, "v") for name in NAMES[:3]] + [("in", "b03", "s")])
        self.assert_granted(wide(), [("in", name, "stuv"[at // 3]) for at, name in enumerate(NAMES)])

    def test_one_deep_wish(self):
        self.assert_granted(tower(), [("within", "u", "y")])
        self.assert_granted(tower(), [("within", "u", "y"), ("in", "r", "y"), ("in", "q", "a"), ("in", "s", "z")])
        self.assert_granted(tower(), [("in", "y", "b"), ("within", "x", "b")])
        self.assert_granted(deep_and_wide(), [("within", "l3", "s"), ("in", "h0", "t")])
        self.assert_granted(deep_and_wide(), [("within", "l3", "s")] + [("in", f"h{at}", "t") for at in range(3)])

    def test_several_deep_wishes(self):
        self.assert_granted(tower(), [("within", "u", "y"), ("within", "v", "z"), ("in", "y", "b")])
        self.assert_denied(tower(), [("within", "u", "y"), ("within", "v", "y"), ("in", "y", "b")], "cases")
        self.assert_granted(tower(), [("within", "u", "y"), ("within", "u", "y")])
        self.assert_granted(shown(), [("within", "n", "b"), ("within", "t", "a")] * 6)
        self.assert_granted(four_hundred(), [("within", "b00", "t"), ("within", "b06", "t")])

    def test_a_fixed_box(self):
        paper = self.assert_denied(tower(), [("in", "u", "b"), ("in", "x", "z")], "fixed")
        self.assert_same(paper, ("fixed", 1))
        self.assert_denied(tower(), [("in", "f", "a")], "fixed")
        self.assert_denied(tower(), [("in", "f", "a"), ("within", "u", "a"), ("within", "u", "b")], "fixed")

    def test_two_holders(self):
        paper = self.assert_denied(tower(), [("in", "u", "b"), ("in", "v", "b"), ("in", "u", "q")], "two")
        self.assert_same(paper, ("two", 0, 2))
        self.assert_denied(wide(), [("in", "b00", "s"), ("in", "b00", "t")], "two")

    def test_a_full_slot(self):
        wishes = [("in", "u", "b"), ("in", "q", "a"), ("in", "u", "b"), ("in", "v", "b")]
        paper = self.assert_denied(tower(), wishes, "full")
        self.assert_same(paper[:3], ("full", 1, "b"))
        self.assertIn(paper[3], [(0, 3), (2, 3)])
        # Full at once: no slot of its weight.
        self.assert_same(self.assert_denied(tower(), [("in", "u", "s")], "full"), ("full", 1, "s", (0,)))
        self.assert_same(self.assert_denied(tower(), [("in", "u", "c")], "full"), ("full", 1, "c", (0,)))
        self.assert_denied(wide(), [("in", name, "t") for name in NAMES[:4]], "full")

    def test_a_closed_set(self):
        paper = self.assert_denied(tower(), [("in", "y", "a"), ("within", "u", "c")], "closed")
        self.assert_same(paper[:2], ("closed", 1))
        self.assert_denied(tower(), [("within", "u", "s")], "closed")
        self.assert_denied(tower(), [("within", "x", "c")], "closed")
        self.assert_denied(tower(), [("within", "f", "a")], "closed")
        # Only the direct wishes hinder the deep one.
        self.assert_denied(tower(), [("in", "u", "q"), ("in", "q", "a"), ("within", "u", "b")], "closed")
        self.assert_denied(deep_and_wide(), [("within", "l3", "l2")], "closed")
        self.assert_denied(deep_and_wide(), [("in", "l3", "h3"), ("in", "h3", "s"), ("within", "l3", "t")], "closed")
        # The room that other boxes leave: all three on s are taken.
        taken = [("in", f"h{at}", "s") for at in range(3)]
        self.assert_denied(deep_and_wide(), taken + [("within", "h3", "s")], "closed")
        self.assert_granted(deep_and_wide(), taken[1:] + [("within", "h3", "s")])
        self.assert_granted(deep_and_wide(), taken + [("within", "h2", "s")])

    def test_cases(self):
        paper = self.assert_denied(tower(), [("within", "u", "y"), ("within", "u", "z")], "cases")
        self.assert_same(len(paper[1]), count(tower()))
        self.assert_denied(shown(), [("within", "n", "a"), ("within", "n", "b")], "cases")
        self.assert_denied(four_hundred(), [("within", "b00", "t"), ("within", "b00", "s")], "cases")
        # Two deep wishes are two, also where they are equal, or where one alone is denied already.
        self.assert_denied(shown(), [("within", "n", "t"), ("within", "n", "t")], "cases")

    def test_direct_wishes_are_denied_first(self):
        deep = [("within", "l3", "s"), ("within", "l3", "t")]
        self.assert_denied(deep_and_wide(), deep + [("in", "l3", "h3"), ("in", "l3", "h4")], "two")
        self.assert_denied(deep_and_wide(), deep + [("in", f"h{at}", "s") for at in range(4)], "full")
        self.assert_denied(tower(), [("within", "u", "c"), ("in", "f", "a")], "fixed")

    def test_too_many_worlds(self):
        for wishes in [
            [("within", "b00", "s"), ("within", "b00", "s")], [("within", "b00", "s"), ("within", "b01", "t")],
            [("within", "b00", "s"), ("in", "b01", "t"), ("within", "b00", "b01")],
        ]:
            many = count(wide())
            self.assert_error(TooMany, {"many": many, "limit": 400}, grant, wide(), wishes)
            self.assert_error(TooMany, {"many": many, "limit": 400}, count_granted, wide(), wishes)
            self.assert_error(TooMany, {"many": 420, "limit": 400}, grant, more_than_four_hundred(), wishes)
        self.assert_same(count(four_hundred()), 400)

    def test_wrong_worlds(self):
        wishes = [("in", "k", "a")]
        self.assert_answer(True, is_granted, shown(), wishes, shown())
        self.assert_answer(False, is_granted, shown(), wishes, shown().moved("k", "b"))
        # In no class of the world, though the wish holds.
        self.assert_answer(False, is_granted, shown(), wishes, shown().moved("t", "b"))
        self.assert_answer(False, is_granted, shown(), [], shown().moved("t", "b"))
        for old, new in [("k 3", "k 4"), ("in a", "in a nailed"), ("shelf b", "shelf b sealed"), ("shelf b\n", "")]:
            other = parse_world((SHOWN.replace("m 2 in b", "m 2 in a") if "shelf b\n" == old else SHOWN).replace(
                old, new, 1
            ))
            self.assert_answer(False, is_granted, shown(), wishes, other)
            self.assert_answer(False, is_granted, shown(), [], other)
        self.assert_answer(False, is_granted, shown(), [("in", "k", "a"), ("in", "n", "a")], shown())
        self.assert_answer(True, is_granted, shown(), [("in", "k", "a")] * 12, shown())

    def test_any_world_of_the_class_is_judged(self):
        for found in listed(tower()):
            self.assert_same(is_granted(tower(), [("in", "u", "b")], found), found.holder("u") == "b")
            self.assert_same(is_granted(tower(), [], found), True)


class Denying(Case):
    """[50], [51]: is_denied"""

    def assert_denial(self, wanted, wishes, paper, world=None):
        for given in (list(wishes), tuple(wishes)):
            self.assert_answer(wanted, is_denied, world if world is not None else tower(), given, paper)

    def test_fixed(self):
        wishes = [("in", "x", "z"), ("in", "x", "y"), ("in", "u", "s"), ("within", "x", "c"), ("in", "f", "a")]
        for at, wanted in [(0, True), (1, False), (2, False), (3, False), (4, True), (5, False), (-1, False)]:
            self.assert_denial(wanted, wishes, ("fixed", at))
        self.assert_denial(False, [], ("fixed", 0))
        self.assert_denial(False, wishes, ("fixed", 0, 0))
        self.assert_denial(False, wishes, ("fixed",))
        self.assert_denial(False, wishes, ("Fixed", 0))

    def test_two(self):
        wishes = [("in", "u", "b"), ("in", "v", "q"), ("in", "u", "q"), ("in", "u", "b"), ("within", "u", "c")]
        for low, high, wanted in [
            (0, 2, True), (2, 3, True), (0, 3, False), (0, 1, False), (1, 2, False), (2, 0, False), (2, 2, False),
            (0, 4, False), (2, 4, False), (0, 5, False), (-5, 2, False), (0, -3, False), (-4, 0, False),
        ]:
            self.assert_denial(wanted, wishes, ("two", low, high))
        self.assert_denial(True, [("in", "x", "z"), ("in", "x", "y")], ("two", 0, 1))
        self.assert_denial(False, [("within", "u", "b"), ("in", "u", "q")], ("two", 0, 1))
        self.assert_denial(False, wishes, ("two", 0, 2, 3))

    def test_full(self):
        wishes = [
            ("in", "u", "b"), ("in", "v", "b"), ("in", "u", "b"), ("in", "q", "b"), ("in", "w", "q"), ("in", "y", "b"),
            ("within", "w", "b"), ("in", "f", "b"), ("in", "s", "b"),
        ]
        for indexes, wanted in [
            ((0, 1), True), ((1, 2), True), ((0, 2), False), ((0, 1, 2), False), ((1, 0), False), ((0,), False),
            ((0, 4), False), ((0, 1, 4), False), ((0, 6), False), ((0, 7), False), ((0, 5), False), ((), False),
            ((0, 1, 9), False), ((-9, -8), False), ((0, 0), False), ((0, 1, 1), False),
        ]:
            self.assert_denial(wanted, wishes, ("full", 1, "b", indexes))
        self.assert_denial(True, wishes, ("full", 4, "b", (3,)))
        self.assert_denial(True, wishes, ("full", 4, "b", (3, 8)))
        self.assert_denial(False, wishes, ("full", 9, "b", (5,)))
        self.assert_denial(False, wishes, ("full", 4, "b", (0, 1)))
        self.assert_denial(False, wishes, ("full", 1, "a", (0, 1)))
        self.assert_denial(False, wishes, ("full", 1, "q", (0, 1)))
        self.assert_denial(False, wishes, ("full", 1, "b", [0, 1]))
        self.assert_denial(False, wishes, ("full", 1, "b", (0, 1), ()))
        self.assert_denial(False, [("in", "u", "b")], ("full", 1, "z", ()))

    def test_full_of_just_the_slot(self):
        wishes = [("in", name, "v") for name in NAMES[:4]]
        self.assert_denial(True, wishes, ("full", 1, "v", (0, 1, 2, 3)), wide())
        self.assert_denial(False, wishes, ("full", 1, "v", (0, 1, 2)), wide())

    def test_closed(self):
        wishes = [("within", "u", "c"), ("in", "y", "a"), ("within", "s", "b")]
        whole = ("a", "b", "q", "r", "u", "y", "z")
        self.assert_denial(True, wishes, ("closed", 0, whole))
        for names in [
            (), ("u",), whole[:-1], whole[1:], whole + whole[-1:], whole[::-1], ("a", "b", "c", "q", "r", "u", "y", "z"),
            ("a", "b", "q", "r", "y", "z"), ("a", "b", "n", "q", "r", "u", "y", "z"), list(whole), ("", *whole),
        ]:
            self.assert_denial(False, wishes, ("closed", 0, names))
        for names in [
            ("a", "b", "q", "r", "s", "u", "y", "z"), ("a", "b", "q", "r", "u", "v", "w", "y", "z"),
            ("a", "b", "q", "r", "s", "u", "v", "w", "x", "y", "z"),
        ]:
            self.assert_denial(True, wishes, ("closed", 0, names))
        # The index tells which wish it is; a direct one has no such certificate.
        self.assert_denial(False, wishes, ("closed", 1, ("y",)))
        self.assert_denial(False, wishes, ("closed", 1, ("a", "y")))
        self.assert_denial(False, wishes, ("closed", 2, whole))
        self.assert_denial(False, wishes, ("closed", 3, whole))
        self.assert_denial(False, wishes, ("closed", -3, whole))
        self.assert_denial(False, wishes, ("closed", 0, whole, 0))

    def test_open_holders(self):
        """Each rule of [51]."""
        # The first direct wish of a box, also if there are others, or none of them can be.
        first = [("in", "u", "q"), ("in", "u", "r"), ("in", "q", "a"), ("within", "u", "b")]
        self.assert_denial(True, first, ("closed", 3, ("a", "q", "u")))
        self.assert_denial(False, first, ("closed", 3, ("a", "r", "u")))
        self.assert_denial(True, [("in", "u", "s"), ("in", "s", "c"), ("within", "u", "a")], ("closed", 2, (
            "c", "s", "u",
        )))
        # A direct wish of a fixed box goes before its holder.
        self.assert_denial(True, [("in", "x", "c"), ("within", "x", "y")], ("closed", 1, ("c", "x")))
        self.assert_denial(False, [("in", "x", "c"), ("within", "x", "z")], ("closed", 1, ("a", "b", "x", "y")))
        self.assert_denial(True, [("within", "x", "z")], ("closed", 0, ("a", "b", "x", "y")))
        # Room in a slot: other boxes of the weight count once each, with their first wishes alone.
        taken = [("in", "h0", "s"), ("in", "h1", "s"), ("in", "h2", "s")]
        deep = [("within", "h3", "s")]
        closed = ("closed", 3, ("h3", "t"))
        self.assert_denial(True, taken + deep, closed, deep_and_wide())
        self.assert_denial(False, taken[:2] + taken[:1] + deep, closed, deep_and_wide())
        later = [("in", "h0", "s"), ("in", "h1", "s"), ("in", "h2", "t"), ("in", "h2", "s")]
        self.assert_denial(False, later + deep, ("closed", 4, ("h3", "t")), deep_and_wide())
        more = taken + [("in", "h4", "s")]
        self.assert_denial(True, more + deep, ("closed", 4, ("h3", "t")), deep_and_wide())
        # Boxes of another weight, and fixed ones, take no room.
        self.assert_denial(False, [("in", "u", "a"), ("within", "s", "a")], ("closed", 1, ("b", "s", "y", "z")))
        self.assert_denial(False, [("in", "f", "b"), ("within", "u", "b")], ("closed", 1, (
            "a", "q", "r", "u", "y", "z",
        )))

    def test_cases(self):
        wishes = [("within", "n", "a"), ("in", "n", "t"), ("within", "n", "b"), ("in", "k", "a")]
        worlds = listed(shown())
        right = [[at for at in range(4) if not holds(world, wishes[at])] for world in worlds]
        self.assert_same([len(indexes) > 0 for indexes in right], [True] * 4)
        for first in range(-1, 5):
            indexes = (first,) + tuple(found[0] for found in right[1:])
            self.assert_denial(first in right[0], wishes, ("cases", indexes), shown())
        indexes = tuple(found[0] for found in right)
        self.assert_denial(True, wishes, ("cases", indexes), shown())
        self.assert_denial(True, wishes, ("cases", tuple(found[-1] for found in right)), shown())
        for wrong in [indexes[:3], indexes + (1,), (), list(indexes), indexes[:3] + (None,), indexes[:3] + ("1",)]:
            self.assert_denial(False, wishes, ("cases", wrong), shown())
        self.assert_denial(False, wishes, ("cases", indexes, 0), shown())
        self.assert_denial(False, [], ("cases", (0, 0, 0, 0)), shown())
        self.assert_denial(False, [], ("cases", ()), shown())

    def test_cases_of_400_worlds_and_of_more(self):
        wishes = [("in", "b00", "b01"), ("within", "b00", "s")]
        self.assert_same(is_denied(four_hundred(), wishes, ("cases", (0,) * 400)), True)
        self.assert_same(is_denied(four_hundred(), wishes, ("cases", (0,) * 399)), False)
        self.assert_same(is_denied(four_hundred(), wishes, ("cases", (0,) * 401)), False)
        self.assert_same(is_denied(more_than_four_hundred(), wishes, ("cases", (0,) * 420)), False)
        self.assert_same(is_denied(more_than_four_hundred(), wishes, ("full", 1, "b01", (0,))), True)
        deep = [("within", "b00", "b01"), ("within", "b01", "b00")]
        self.assert_same(is_denied(wide(), deep, ("closed", 0, ("b00", "s", "t", "u", "v"))), True)
        self.assert_same(is_denied(wide(), deep, ("cases", (0,) * 5000)), False)

    def test_forms_that_are_none(self):
        wishes = [("in", "x", "z"), ("within", "u", "c")]
        for paper in [
            (), ("fixed",), ("granted", tower().row), (0,), (None,), (("fixed", 0),), (["fixed"], 0), ("fixed", "0"),
            ("fixed", None), ("fixed", (0,)), ("two",), ("two", 0), ("full",), ("full", 1, "b"), ("closed",), ("cases",),
            ("bag", "a", (), ()), ("", 0), ("fixed", [0]), ("fixed", 10**3999), ("fixed", -10**3999),
        ]:
            self.assert_denial(False, wishes, paper)

    def test_wrong_parts(self):
        both = [("in", "u", "b"), ("in", "u", "q"), ("in", "x", "z"), ("in", "v", "b"), ("within", "w", "c")]
        papers = [
            ("fixed", 2), ("two", 0, 1), ("full", 1, "b", (0, 3)), ("closed", 4, ("a", "b", "q", "r", "w", "y", "z")),
        ]
        for paper in papers:
            self.assert_same(is_denied(tower(), both, paper), True)
            for changed in wrong_things(paper):
                self.assert_same(is_denied(tower(), both, changed), False)
        two = [("within", "n", "a"), ("within", "n", "b")]
        told = grant(shown(), two)
        for changed in wrong_things(told[1]):
            self.assert_same(is_denied(shown(), two, changed), False)
        for part in WEIRD:
            for paper in [
                (part,), (part, 0), ("fixed", part), ("two", part, 1), ("two", 0, part), ("full", part, "b", (0, 3)),
                ("full", 1, part, (0, 3)), ("full", 1, "b", part), ("full", 1, "b", (part,)), ("full", 1, "b", (0, part)),
                ("full", 1, part, ()), ("full", part, part, ()), ("closed", part, ("w",)), ("closed", 4, part),
                ("closed", 4, (part,)), ("closed", 4, ("w", part)), ("cases", part), ("cases", (part,) * 18),
            ]:
                if paper not in papers + [("two", 0, 1)]:
                    self.assert_same(is_denied(tower(), both, paper), False)


class Counting(Case):
    """count_granted and may_given"""

    def test_without_deep_wishes(self):
        self.assert_answer(369600, count_granted, wide(), [])
        self.assert_answer(92400, count_granted, wide(), [("in", "b00", "s")])
        self.assert_answer(92400, count_granted, wide(), [("in", "b00", "s")] * 12)
        self.assert_answer(0, count_granted, wide(), [("in", "b00", "s"), ("in", "b00", "t")])
        self.assert_answer(0, count_granted, wide(), [("in", name, "s") for name in NAMES[:4]])
        self.assert_answer(1680, count_granted, wide(), [("in", name, "s") for name in NAMES[:3]])
        self.assert_answer(1, count_granted, wide(), [("in", name, "stuv"[at // 3]) for at, name in enumerate(NAMES)])
        self.assert_answer(0, count_granted, tower(), [("in", "x", "z")])
        self.assert_answer(count(tower()), count_granted, tower(), [("in", "x", "y"), ("in", "f", "c")])
        self.assert_answer(factorial(5) * 20, count_granted, deep_and_wide(), [("in", "l0", "h5")])

    def test_with_deep_wishes(self):
        self.assert_answer(1, count_granted, shown(), [("within", "n", "b")])
        self.assert_answer(3, count_granted, shown(), [("within", "n", "a")])
        self.assert_answer(0, count_granted, shown(), [("within", "n", "t")])
        self.assert_answer(0, count_granted, shown(), [("within", "n", "b"), ("within", "n", "a")])
        self.assert_answer(1, count_granted, shown(), [("within", "n", "b"), ("in", "k", "a")])
        self.assert_answer(200, count_granted, four_hundred(), [("within", "b00", "t")])

    def test_too_many_worlds(self):
        for wishes in [[("within", "b00", "s")], [("in", "b00", "s"), ("in", "b00", "t"), ("within", "b00", "b01")]]:
            self.assert_error(TooMany, {"many": 369600, "limit": 400}, count_granted, wide(), wishes)
            self.assert_error(TooMany, {"many": 420, "limit": 400}, count_granted, more_than_four_hundred(), wishes)
        for wishes in ([], [("in", "b00", "s")], [("in", "b00", "s"), ("in", "b00", "t")]):
            self.assert_error(TooMany, {"many": 369600, "limit": 400}, may_given, wide(), wishes, "b00")
            self.assert_error(TooMany, {"many": 420, "limit": 400}, may_given, more_than_four_hundred(), wishes, "b00")

    def test_may_given(self):
        self.assert_answer(["a", "m"], may_given, shown(), [], "n")
        self.assert_answer(["a"], may_given, shown(), [("in", "t", "m")], "n")
        self.assert_answer(["a", "m"], may_given, shown(), (("within", "n", "a"),), "n")
        self.assert_answer(["b"], may_given, shown(), [("in", "n", "m"), ("within", "n", "b")], "m")
        self.assert_answer([], may_given, shown(), [("within", "n", "t")], "n")
        self.assert_answer([], may_given, shown(), [("in", "k", "m")], "t")
        self.assert_answer(["y"], may_given, tower(), [], "x")
        self.assert_answer(["s", "t"], may_given, four_hundred(), [("within", "b00", "t")], "b01")

    def test_what_is_not_a_box(self):
        for name in ["a", "b", "z", "", "K", "no name"]:
            self.assert_error(Unknown, {"name": name}, may_given, shown(), [], name)
            self.assert_error(Unknown, {"name": name}, may_given, shown(), [("in", "k", "m")], name)
            self.assert_error(Unknown, {"name": name}, may_given, wide(), [], name)


def slow_denied(yard, rows, start, wishes, paper):
    """Whether the certificate is one of [50], read word by word."""
    table = dict(zip(yard.boxes, start))
    full = slow.weights(yard, start)
    free = [box for box in yard.boxes if slow.is_free(yard, start, box)]
    direct = [at for at, wish in enumerate(wishes) if wish[0] == "in"]
    first = {}
    for at in direct:
        first.setdefault(wishes[at][1], wishes[at][2])
    if paper[0] == "fixed":
        at = paper[1]
        return at in direct and wishes[at][1] not in free and wishes[at][2] != table[wishes[at][1]]
    if paper[0] == "two":
        low, high = paper[1:]
        return low in direct and high in direct and low < high and (
            wishes[low][1] == wishes[high][1] and wishes[low][2] != wishes[high][2]
        )
    if paper[0] == "full":
        _, weight, holder, indexes = paper
        if any(at not in direct for at in indexes) or any(low >= high for low, high in zip(indexes, indexes[1:])):
            return False
        boxes = [wishes[at][1] for at in indexes]
        room = sum(full[box] == weight and table[box] == holder for box in free)
        return len(boxes) > room and len(set(boxes)) == len(boxes) and all(
            wishes[at][2] == holder and wishes[at][1] in free and full[wishes[at][1]] == weight for at in indexes
        )
    if paper[0] == "closed":
        _, at, names = paper
        if at not in range(len(wishes)) or wishes[at][0] != "within" or list(names) != sorted(set(names)):
            return False
        if wishes[at][1] not in names or wishes[at][2] in names or not set(names) <= set(yard.holders):
            return False
        for box in names:
            if box in table:
                if box in first:
                    places = [first[box]]
                elif box not in free:
                    places = [table[box]]
                else:
                    pool = [other for other in free if full[other] == full[box]]
                    places = [place for place in {table[other] for other in pool} if (
                        sum(table[other] == place for other in pool)
                        > sum(first.get(other) == place for other in pool if other != box)
                    )]
                if not set(places) <= set(names):
                    return False
        return True
    return len(paper[1]) == len(rows) <= 400 and all(
        at in range(len(wishes)) and not slow.holds(yard, row, wishes[at]) for row, at in zip(rows, paper[1])
    )


class AllTogether(Case):
    """Against all worlds of the class, found by trying every deed."""

    def test_small_classes(self):
        chance = random.Random(11)
        worlds = [parse_world(text) for text in slow.CLASSES + [SHOWN]]
        for yard in slow.small_yards():
            worlds += [World.from_row(yard, row) for row in slow.all_rows(yard)[::31]]
        for world in worlds:
            rows = sorted(slow.distances(world.yard, world.row))
            known = slow.all_wishes(world.yard)
            for many in (0, 1, 1, 2, 2, 3, 3, 4):
                self.check(world, rows, [chance.choice(known) for _ in range(many)], chance)
            # Wishes of one world of the class hold together.
            row = chance.choice(rows)
            true = [wish for wish in known if slow.holds(world.yard, row, wish)]
            self.check(world, rows, chance.sample(true, min(5, len(true))), chance)

    def check(self, world, rows, wishes, chance):
        yard = world.yard
        right = [row for row in rows if all(slow.holds(yard, row, wish) for wish in wishes)]
        missing = [at for at, wish in enumerate(wishes) if not slow.holds(yard, world.row, wish)]
        self.assert_same(unmet(world, wishes), missing)
        self.assert_same(count_granted(world, wishes), len(right))
        for at, box in enumerate(yard.boxes):
            self.assert_same(may_given(world, wishes, box), sorted({row[at] for row in right}))
        for row in rows:
            self.assert_same(is_granted(world, wishes, World.from_row(yard, row)), row in right)
        word, found = grant(world, wishes)
        self.assert_same(word, "granted" if right else "denied")
        if right:
            self.assertIn(found.row, right)
        else:
            self.assertTrue(slow_denied(yard, rows, world.row, wishes, found))
        for paper in self.papers(yard, rows, world, wishes, chance) + ([found] if not right else []):
            wanted = slow_denied(yard, rows, world.row, wishes, paper)
            self.assert_same(is_denied(world, wishes, paper), wanted)
            # What the document says: a certificate denies.
            self.assertFalse(wanted and right)

    def papers(self, yard, rows, world, wishes, chance):
        """Some right and many wrong certificates."""
        many = len(wishes)
        indexes = list(range(-1, many + 1))
        found = [("fixed", at) for at in indexes] + [("two", low, high) for low in indexes for high in indexes]
        weights = sorted(set(slow.weights(yard, world.row).values()))
        for holder in yard.holders:
            for weight in weights:
                for chosen in [(0,), (1,), (0, 1), (0, 1, 2), (1, 2), (0, 2), (2, 1), ()]:
                    found.append(("full", weight, holder, chosen))
        for at in indexes:
            for _ in range(12):
                names = chance.sample(yard.holders, chance.randint(1, len(yard.holders)))
                found.append(("closed", at, tuple(sorted(names))))
        for _ in range(4):
            found.append(("cases", tuple(chance.choice(indexes) for _ in rows)))
        if wishes:
            wrong = [[at for at in range(many) if not slow.holds(yard, row, wishes[at])] for row in rows]
            found.append(("cases", tuple(chance.choice(some or [0]) for some in wrong)))
        return found


class Arguments(Case):
    """[4]: what is passed or returned may be changed afterwards"""

    def test_a_later_change_of_what_was_passed(self):
        wishes = [("in", "k", "b")]
        told = grant(shown(), wishes)
        wishes.append(("in", "k", "a"))
        self.assert_same(told, grant(shown(), [("in", "k", "b")]))
        self.assert_same(told[1].holder("k"), "b")

    def test_the_order_of_the_names_does_not_matter(self):
        yard = Yard(["b", "a"], {"t": 1, "n": 1, "m": 2, "k": 3})
        other = World(yard, {"t": "a", "n": "m", "m": "b", "k": "a"})
        for wishes in ([], [("in", "n", "a")], [("within", "n", "a")], [("within", "n", "t")], [("in", "t", "b")]):
            self.assert_same(grant(other, wishes), grant(shown(), wishes))


if __name__ == "__main__":
    unittest.main()
