"""nestweigh/may.py: points [3], [4], [5] and [46] to [48]."""

import itertools
import unittest

from nestweigh.classes import count
from nestweigh.errors import BadWish, Same, Unknown
from nestweigh.holding import chain, full_weights, height
from nestweigh.may import (
    closed_set,
    deepest,
    depths,
    is_chain,
    is_closed_set,
    may_hold,
    may_within,
    must_hold,
    must_within,
    rising_chain,
    world_of_chain,
)
from nestweigh.passage import comes
from nestweigh.texts import parse_world
from nestweigh.worlds import World
from nestweigh.yards import Yard
from tests import slow
from tests.support import WEIRD, Case, wrong_things

SHOWN = "shelf a\nshelf b\nbox k 3 in a\nbox m 2 in b\nbox n 1 in m\nbox t 1 in a"
# Three weights above each other: 1 (u, v, w), 4 (q, r, s) and 9 (y, z); x is nailed, f lies under a seal.
TOWER = (
    "shelf a\nshelf b\nshelf c sealed\nbox f 1 in c\nbox q 3 in y\nbox r 3 in z\nbox s 4 in a\nbox u 1 in q\n"
    "box v 1 in r\nbox w 1 in b\nbox x 2 in y nailed\nbox y 3 in a\nbox z 5 in b"
)
NO_BOXES = ["a", "b", "c", "n", "", "Q"]
NO_HOLDERS = ["n", "", "Q", "no name"]


def shown():
    return parse_world(SHOWN)


def tower():
    return parse_world(TOWER)


def wide():
    """Twelve boxes, six heavy ones and a light one in each: 720 times 369600 worlds or so."""
    heavy, light = [f"h{at}" for at in range(6)], [f"l{at}" for at in range(6)]
    yard = Yard(["s", "t"], {**{name: 9 for name in heavy}, **{name: 1 for name in light}})
    return World(yard, {**{name: "st"[at % 2] for at, name in enumerate(heavy)}, **dict(zip(light, heavy))})


class Holders(Case):
    """[46]: may_hold and must_hold"""

    def test_free_boxes(self):
        self.assert_same(full_weights(tower()), {
            "f": 1, "q": 4, "r": 4, "s": 4, "u": 1, "v": 1, "w": 1, "x": 2, "y": 9, "z": 9,
        })
        for box in "uvw":
            self.assert_answer(["b", "q", "r"], may_hold, tower(), box)
            self.assert_answer(None, must_hold, tower(), box)
        for box in "qrs":
            self.assert_answer(["a", "y", "z"], may_hold, tower(), box)
        for box in "yz":
            self.assert_answer(["a", "b"], may_hold, tower(), box)

    def test_fixed_boxes(self):
        for box, holder in [("f", "c"), ("x", "y")]:
            self.assert_answer([holder], may_hold, tower(), box)
            self.assert_answer(holder, must_hold, tower(), box)

    def test_a_free_box_with_one_slot(self):
        world = parse_world("shelf a\nshelf b\nbox k 1 in a\nbox l 1 in a\nbox m 2 in b")
        for box, holder in [("k", "a"), ("l", "a"), ("m", "b")]:
            self.assert_answer([holder], may_hold, world, box)
            self.assert_answer(holder, must_hold, world, box)

    def test_what_is_not_a_box(self):
        for name in NO_BOXES:
            for call in (may_hold, must_hold, may_within, must_within, depths):
                self.assert_error(Unknown, {"name": name}, call, tower(), name)


class Within(Case):
    """[47], [48]: may_within and must_within"""

    def test_may_within(self):
        for box in "uvw":
            self.assert_answer(["a", "b", "q", "r", "y", "z"], may_within, tower(), box)
        self.assert_answer(["a", "b", "y", "z"], may_within, tower(), "s")
        self.assert_answer(["a", "b"], may_within, tower(), "y")
        self.assert_answer(["a", "b", "y"], may_within, tower(), "x")
        self.assert_answer(["c"], may_within, tower(), "f")

    def test_must_within(self):
        for box, holders in {"u": [], "q": [], "y": [], "x": ["y"], "f": ["c"]}.items():
            self.assert_answer(holders, must_within, tower(), box)

    def test_a_holder_on_every_way(self):
        # k and l lie in h or i, these two in o, and o on one shelf.
        world = parse_world(
            "shelf a\nshelf b\nbox h 2 in o\nbox i 2 in o\nbox j 1 in a\nbox k 1 in h\nbox l 1 in i\nbox o 5 in a"
        )
        self.assert_answer(["a"], must_within, world, "k")
        self.assert_answer(["a", "o"], must_within, world.moved("j", "b"), "h")
        self.assert_answer(["a", "h", "i", "o"], may_within, world, "k")
        only = world.moved("k", "h").moved("j", "h")
        self.assert_answer(["a", "o"], must_within, only, "k")

    def test_all_shelves_taken_together(self):
        # h stays on its shelf as long as no box is as heavy as itself.
        for nailed in ("", " nailed"):
            world = parse_world(f"shelf a\nshelf b\nbox h 2 in a\nbox i 4 in b\nbox k 1 in h{nailed}")
            self.assert_answer(["a", "h"], must_within, world, "k")
            world = parse_world(f"shelf a\nshelf b\nbox h 2 in a\nbox i 3 in b\nbox k 1 in h{nailed}")
            self.assert_answer(["a", "b", "h"], may_within, world, "k")
            self.assert_answer(["h"], must_within, world, "k")


class Depths(Case):
    """[47]: depths and deepest"""

    def test_depths(self):
        for box, numbers in {"u": [1, 2, 3], "s": [1, 2], "y": [1], "x": [2], "f": [1]}.items():
            self.assert_answer(numbers, depths, tower(), box)
        self.assert_answer(3, deepest, tower())

    def test_deeper_than_the_world_itself(self):
        world = parse_world("shelf a\nbox h 2 in a\nbox k 1 in h\nbox l 1 in a\nbox m 3 in y\nbox y 4 in a")
        self.assert_same(height(world), 2)
        self.assert_answer([1, 2, 3], depths, world, "k")
        self.assert_answer(3, deepest, world)

    def test_one_box(self):
        world = parse_world("shelf a sealed\nbox b 1 in a")
        self.assert_answer([1], depths, world, "b")
        self.assert_answer(1, deepest, world)

    def test_twelve_in_each_other(self):
        names = [f"b{number:02}" for number in range(12)]
        world = World(Yard(["s"], {name: 1 for name in names}), dict(zip(names, ["s"] + names)))
        self.assert_answer(12, deepest, world)
        self.assert_answer([12], depths, world, "b11")


class Chains(Case):
    """[47]: rising_chain and is_chain"""

    def test_a_chain_with_the_fewest_names(self):
        self.assert_answer(["u", "b"], rising_chain, tower(), "u", "b")
        self.assert_answer(["w", "q"], rising_chain, tower(), "w", "q")
        self.assert_answer(["x", "y"], rising_chain, tower(), "x", "y")
        self.assert_answer(["x", "y", "b"], rising_chain, tower(), "x", "b")
        for box, holder, many in [("u", "a", 3), ("u", "y", 3), ("w", "z", 3), ("q", "b", 3), ("q", "a", 2)]:
            names = rising_chain(tower(), box, holder)
            self.assert_answer(names, rising_chain, tower(), box, holder)
            self.assert_same(len(names), many)
            self.assert_answer(True, is_chain, tower(), box, holder, names)

    def test_a_short_chain_beside_a_long_one(self):
        # u may lie in q or r; q lies in x at once, and r within it alone.
        world = parse_world(
            "shelf a\nbox q 3 in x\nbox r 4 in y\nbox u 1 in q\nbox v 1 in r\nbox x 1 in a\nbox y 5 in x"
        )
        self.assert_answer(["u", "q", "x"], rising_chain, world, "u", "x")
        self.assert_answer(["u", "r", "y"], rising_chain, world, "u", "y")

    def test_no_chain(self):
        for box, holder in [("u", "c"), ("u", "s"), ("y", "z"), ("q", "u"), ("f", "a"), ("x", "q"), ("u", "v")]:
            self.assert_answer(None, rising_chain, tower(), box, holder)
            self.assert_answer(False, is_chain, tower(), box, holder, [box, holder])

    def test_chains_of_any_length(self):
        for names in [["u", "b"], ["u", "q", "y", "b"], ["u", "q", "z", "b"], ("u", "r", "y", "b")]:
            self.assert_answer(True, is_chain, tower(), "u", "b", names)
        self.assert_answer(True, is_chain, tower(), "x", "b", ["x", "y", "b"])

    def test_wrong_chains(self):
        for names in [
            [], (), ["u"], ["b"], ["b", "u"], ["u", "u"], ["u", "s", "b"], ["u", "q", "b"], ["u", "y", "b"],
            ["v", "b"], ["u", "q"], ["u", "q", "y", "a"], ["u", "q", "y", "b", "b"], ["u", "u", "b"], ["x", "y", "b"],
            ["u", "b", "b"], ["u", "n", "b"], ["u", "", "b"], ["u", "c", "b"], ["u", "a", "b"],
            ["u", "b", "q", "y", "b"],
        ]:
            self.assert_answer(False, is_chain, tower(), "u", "b", names)
            self.assert_answer(False, is_chain, tower(), "u", "b", tuple(names))

    def test_wrong_parts(self):
        for names in (["u", "q", "y", "b"], ("u", "b")):
            for changed in wrong_things(names):
                self.assert_same(is_chain(tower(), "u", "b", changed), list(changed) == ["u", "b"])
        for part in WEIRD:
            for names in [[part], ["u", part], [part, "b"], ["u", part, "b"], ("u", "b", part)]:
                self.assert_answer(False, is_chain, tower(), "u", "b", names)


class ClosedSets(Case):
    """[47]: closed_set and is_closed_set"""

    def test_where_the_box_may_lie_within_the_holder(self):
        for box, holder in [("u", "a"), ("u", "y"), ("x", "b"), ("f", "c")]:
            self.assert_answer(None, closed_set, tower(), box, holder)

    def test_where_it_may_not(self):
        for box, holder, names in [
            ("u", "c", ("a", "b", "q", "r", "u", "y", "z")), ("y", "z", ("a", "b", "y")), ("f", "a", ("c", "f")),
            ("x", "q", ("a", "b", "x", "y")),
        ]:
            self.assert_answer(names, closed_set, tower(), box, holder)
            self.assert_answer(True, is_closed_set, tower(), box, holder, names)

    def test_any_other_closed_set(self):
        for names in [
            ("a", "b", "y"), ("a", "b", "y", "z"), ("a", "b", "c", "y"), ("a", "b", "c", "f", "y", "z"),
            ("a", "b", "q", "y", "z"), ("a", "b", "x", "y"),
        ]:
            self.assert_answer(True, is_closed_set, tower(), "y", "u", names)
        self.assert_answer(True, is_closed_set, tower(), "f", "a", ("b", "c", "f"))

    def test_wrong_ones(self):
        for names in [
            (), ("y",), ("a", "y"), ("a", "b"), ("a", "b", "q", "y"), ("b", "a", "y"), ("a", "b", "y", "y"),
            ("a", "b", "n", "y"), ("", "a", "b", "y"), ("a", "b", "y", "y", "z"), ("a", "b", "u", "y"),
            ("a", "b", "x", "y", "zz"), ("a", "b", "f", "y"),
        ]:
            self.assert_answer(False, is_closed_set, tower(), "y", "u", names)
        self.assert_answer(False, is_closed_set, tower(), "y", "z", ("a", "b", "y", "z"))
        self.assert_answer(False, is_closed_set, tower(), "u", "a", closed_set(tower(), "u", "c"))

    def test_wrong_parts(self):
        names = ("a", "b", "y")
        for changed in wrong_things(names):
            self.assert_same(is_closed_set(tower(), "y", "z", changed), False)
        for part in WEIRD:
            for given in [(part,), (part, "a", "b", "y"), ("a", part, "b", "y"), ("a", "b", "y", part)]:
                self.assert_answer(False, is_closed_set, tower(), "y", "z", given)

    def test_unknown_and_same_of_all_four(self):
        for call, more in [(rising_chain, []), (closed_set, []), (is_chain, [["u", "b"]]), (is_closed_set, [("u",)])]:
            for name in NO_BOXES:
                self.assert_error(Unknown, {"name": name}, call, tower(), name, "a", *more)
                self.assert_error(Unknown, {"name": name}, call, tower(), name, "none", *more)
                self.assert_error(Unknown, {"name": name}, call, tower(), name, name, *more)
            for name in NO_HOLDERS:
                self.assert_error(Unknown, {"name": name}, call, tower(), "u", name, *more)
            for name in ["u", "f", "y"]:
                self.assert_error(Same, {"name": name}, call, tower(), name, name, *more)
        self.assert_error(Same, {"name": "u"}, is_chain, tower(), "u", "u", [None])
        self.assert_error(Same, {"name": "u"}, is_closed_set, tower(), "u", "u", (None,))


class WorldsOfChains(Case):
    """world_of_chain"""

    def assert_world(self, world, names):
        for given in (list(names), tuple(names)):
            found = world_of_chain(world, given)
            self.assert_answer(found, world_of_chain, world, given)
            self.assertTrue(comes(world, found))
            for name, holder in zip(names, names[1:]):
                self.assert_same(found.holder(name), holder)

    def test_all_steps_at_once(self):
        for names in [
            ["u", "q"], ["w", "r", "y", "b"], ["v", "q", "z", "a"], ["u", "b"], ["x", "y", "b"], ["f", "c"], ["w", "b"],
            ["s", "y"], ["s", "z", "a"], ["w", "q", "y"],
        ]:
            self.assert_world(tower(), names)

    def test_one_name(self):
        for name in ["u", "a", "c", "f", "z"]:
            self.assert_world(tower(), [name])

    def test_names_that_are_not_known(self):
        for name in NO_BOXES:
            self.assert_error(Unknown, {"name": name}, world_of_chain, tower(), [name, "a"])
            self.assert_error(Unknown, {"name": name}, world_of_chain, tower(), ["u", name, "b"])
        for name in NO_HOLDERS:
            self.assert_error(Unknown, {"name": name}, world_of_chain, tower(), [name])
            self.assert_error(Unknown, {"name": name}, world_of_chain, tower(), ("u", name))

    def test_all_names_go_before_the_steps(self):
        self.assert_error(Unknown, {"name": "n"}, world_of_chain, tower(), ["u", "v", "y", "n"])
        self.assert_error(Unknown, {"name": "a"}, world_of_chain, tower(), ["u", "v", "a", "n"])
        self.assert_error(Unknown, {"name": "n"}, world_of_chain, tower(), ["n", "m", "l"])

    def test_steps_that_may_not_be(self):
        for names, at in [
            (["u", "u"], 0), (["u", "s"], 0), (["u", "a"], 0), (["u", "q", "b"], 1), (["u", "q", "y", "z"], 2),
            (["u", "v", "s", "b"], 0), (["f", "b"], 0), (["x", "z"], 0), (["u", "q", "q", "q"], 1), (("y", "c"), 0),
        ]:
            self.assert_error(BadWish, {"at": at}, world_of_chain, tower(), names)


class AllTogether(Case):
    """Against all worlds of the class, found by trying every deed."""

    def test_small_classes(self):
        for text in slow.CLASSES + [SHOWN]:
            self.check(parse_world(text))
        for yard in slow.small_yards():
            for row in slow.all_rows(yard)[::23]:
                self.check(World.from_row(yard, row))

    def check(self, world):
        yard = world.yard
        rows = list(slow.distances(yard, world.row))
        self.assert_same(len(rows), count(world))
        for at, box in enumerate(yard.boxes):
            direct = sorted({row[at] for row in rows})
            above = [slow.above(yard, row, box) for row in rows]
            some = sorted(set(itertools.chain(*above)))
            self.assert_same(may_hold(world, box), direct)
            self.assert_same(must_hold(world, box), direct[0] if len(direct) == 1 else None)
            self.assert_same(may_within(world, box), some)
            self.assert_same(must_within(world, box), [name for name in some if all(name in found for found in above)])
            self.assert_same(depths(world, box), sorted({len(found) for found in above}))
            for holder in yard.holders:
                if holder != box:
                    self.check_pair(world, box, holder, above)
        self.assert_same(deepest(world), max(max(depths(world, box)) for box in world))

    def check_pair(self, world, box, holder, above):
        names = rising_chain(world, box, holder)
        paper = closed_set(world, box, holder)
        lengths = [found.index(holder) + 2 for found in above if holder in found]
        self.assert_same(len(names) if names is not None else None, min(lengths) if lengths else None)
        self.assert_same(paper is None, bool(lengths))
        if lengths:
            self.assertTrue(is_chain(world, box, holder, names))
            found = world_of_chain(world, names)
            self.assertTrue(comes(world, found))
            self.assert_same([box] + chain(found, box)[:len(names) - 1], names)
        else:
            self.assertTrue(is_closed_set(world, box, holder, paper))

    def test_classes_too_large_to_list(self):
        self.assertGreater(count(wide()), 400)
        self.assert_answer([f"h{at}" for at in range(6)], may_hold, wide(), "l0")
        self.assert_answer([f"h{at}" for at in range(6)] + ["s", "t"], may_within, wide(), "l0")
        self.assert_answer([], must_within, wide(), "l0")
        self.assert_answer([2], depths, wide(), "l0")
        self.assert_answer(2, deepest, wide())
        self.assert_answer(None, closed_set, wide(), "l5", "s")
        found = world_of_chain(wide(), ["l5", "h0", "t"])
        self.assert_same((found.holder("l5"), found.holder("h0")), ("h0", "t"))
        self.assertTrue(comes(wide(), found))


if __name__ == "__main__":
    unittest.main()
