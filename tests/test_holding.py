"""nestweigh/holding.py: points [3], [4], [17], [18], [19] and [20]."""

import itertools
import unittest

from nestweigh.errors import BadCount, Loop, Unknown
from nestweigh.holding import (
    all_held,
    by_weight,
    chain,
    depth,
    full_weight,
    full_weights,
    height,
    held,
    is_within,
    meeting,
    sub_world,
    total_weight,
)
from nestweigh.texts import format_world, parse_world
from nestweigh.worlds import World
from nestweigh.yards import Yard
from tests.support import Case

SHOWN = "shelf a\nshelf b\nbox k 3 in a\nbox m 2 in b\nbox n 1 in m\nbox t 1 in a"
NESTED = (
    "shelf p sealed\nshelf q\nshelf r\nbox b 5 in d nailed\nbox c 2 in p nailed sealed\nbox d 3 in f sealed\n"
    "box e 5 in d nailed sealed\nbox f 1 in q nailed sealed\nbox g 7 in f\nbox h 9 in b\nbox i 4 in p"
)
TWELVE = [f"b{number:02}" for number in range(12)]
NO_BOXES = ["p", "q", "r", "x", "", "B"]
NO_HOLDERS = ["x", "", "B", "P"]


def nested():
    return parse_world(NESTED)


def deep():
    """Twelve boxes, each in the one before, the first one on a shelf."""
    return World(Yard(["s", "t"], {box: 10**9 for box in TWELVE}), dict(zip(TWELVE, ["s"] + TWELVE)))


def flat():
    return World(Yard(["s"], {box: 1 + at // 2 for at, box in enumerate(TWELVE)}), {box: "s" for box in TWELVE})


def all_small_worlds():
    """All worlds of one yard with three boxes and two shelves."""
    yard = Yard(["s", "a"], {"b": 4, "z": 2, "c": 1}, nailed=["b"], sealed=["z", "s"])
    worlds = []
    for row in itertools.product(yard.holders, repeat=3):
        try:
            worlds.append(World.from_row(yard, row))
        except Loop:
            pass
    return worlds


class Chains(Case):
    """[17]"""

    def test_from_the_holder_up_to_a_shelf(self):
        self.assert_answer(["a"], chain, parse_world(SHOWN), "k")
        self.assert_answer(["m", "b"], chain, parse_world(SHOWN), "n")
        self.assert_answer(["b", "d", "f", "q"], chain, nested(), "h")

    def test_deep_and_flat(self):
        self.assert_answer(["s"], chain, flat(), "b11")
        self.assert_answer(list(reversed(TWELVE[:11])) + ["s"], chain, deep(), "b11")
        self.assert_answer(["s"], chain, deep(), "b00")

    def test_what_is_not_a_box(self):
        for name in NO_BOXES:
            self.assert_error(Unknown, {"name": name}, chain, nested(), name)


class Within(Case):
    def test_the_holder_and_all_that_it_lies_within(self):
        for holder in nested().yard.holders:
            self.assert_answer(holder in ("b", "d", "f", "q"), is_within, nested(), "h", holder)
            self.assert_answer(holder == "p", is_within, nested(), "c", holder)

    def test_not_within_itself_or_the_other_way_round(self):
        self.assert_answer(False, is_within, nested(), "d", "d")
        self.assert_answer(False, is_within, nested(), "f", "h")

    def test_what_is_not_a_box_or_not_a_holder(self):
        for name in NO_BOXES:
            self.assert_error(Unknown, {"name": name}, is_within, nested(), name, "q")
            self.assert_error(Unknown, {"name": name}, is_within, nested(), name, "y")
        for name in NO_HOLDERS:
            self.assert_error(Unknown, {"name": name}, is_within, nested(), "h", name)
        self.assert_error(Unknown, {"name": "p"}, is_within, nested(), "p", "p")


class Held(Case):
    def test_directly(self):
        wanted = {"b": ["h"], "c": [], "d": ["b", "e"], "e": [], "f": ["d", "g"], "g": [], "h": [], "i": []}
        for box, inner in wanted.items():
            self.assert_answer(inner, held, nested(), box)
        self.assert_answer(["c", "i"], held, nested(), "p")
        self.assert_answer(["f"], held, nested(), "q")
        self.assert_answer([], held, nested(), "r")

    def test_at_any_depth(self):
        wanted = {"b": ["h"], "c": [], "d": ["b", "e", "h"], "f": ["b", "d", "e", "g", "h"]}
        for box, inner in wanted.items():
            self.assert_answer(inner, all_held, nested(), box)
        self.assert_answer(["c", "i"], all_held, nested(), "p")
        self.assert_answer(["b", "d", "e", "f", "g", "h"], all_held, nested(), "q")
        self.assert_answer([], all_held, nested(), "r")

    def test_deep_and_flat(self):
        self.assert_answer(["b00"], held, deep(), "s")
        self.assert_answer(TWELVE, all_held, deep(), "s")
        self.assert_answer(TWELVE[4:], all_held, deep(), "b03")
        self.assert_answer(TWELVE, held, flat(), "s")
        self.assert_answer(TWELVE, all_held, flat(), "s")

    def test_what_is_not_a_holder(self):
        for name in NO_HOLDERS:
            self.assert_error(Unknown, {"name": name}, held, nested(), name)
            self.assert_error(Unknown, {"name": name}, all_held, nested(), name)


class Weights(Case):
    """[18]"""

    def test_boxes_and_shelves(self):
        wanted = {"b": 14, "c": 2, "d": 22, "e": 5, "f": 30, "g": 7, "h": 9, "i": 4, "p": 6, "q": 30, "r": 0}
        for holder, weight in wanted.items():
            self.assert_answer(weight, full_weight, nested(), holder)

    def test_all_boxes(self):
        self.assert_answer({"k": 3, "m": 3, "n": 1, "t": 1}, full_weights, parse_world(SHOWN))
        self.assert_answer(
            {"b": 14, "c": 2, "d": 22, "e": 5, "f": 30, "g": 7, "h": 9, "i": 4}, full_weights, nested()
        )

    def test_the_greatest_weights(self):
        self.assert_answer(12 * 10**9, full_weight, deep(), "s")
        self.assert_answer(0, full_weight, deep(), "t")
        self.assert_answer({box: (12 - at) * 10**9 for at, box in enumerate(TWELVE)}, full_weights, deep())

    def test_what_is_not_a_holder(self):
        for name in NO_HOLDERS:
            self.assert_error(Unknown, {"name": name}, full_weight, nested(), name)

    def test_the_sum_of_the_own_weights(self):
        self.assert_answer(7, total_weight, parse_world(SHOWN))
        self.assert_answer(36, total_weight, nested())
        self.assert_answer(12 * 10**9, total_weight, deep())
        self.assert_answer(1, total_weight, parse_world("shelf a\nbox b 1 in a"))

    def test_against_adding_up_from_within(self):
        def added(world, holder):
            own = world.yard.own(holder) if world.yard.is_box(holder) else 0
            return own + sum([added(world, box) for box in held(world, holder)])

        for world in all_small_worlds():
            for holder in world.yard.holders:
                self.assert_same(full_weight(world, holder), added(world, holder))
            self.assert_same(full_weights(world), {box: added(world, box) for box in world})


class ByWeight(Case):
    def test_from_the_greatest_to_the_least_and_equal_ones_by_name(self):
        self.assert_answer(["k", "m", "n", "t"], by_weight, parse_world(SHOWN))
        self.assert_answer(["f", "d", "b", "h", "g", "e", "i", "c"], by_weight, nested())
        self.assert_answer(TWELVE, by_weight, deep())

    def test_many_equal_ones(self):
        wanted = [name for at in (10, 8, 6, 4, 2, 0) for name in TWELVE[at:at + 2]]
        self.assert_answer(wanted, by_weight, flat())
        world = parse_world("shelf s\nbox a 1 in s\nbox b 1 in s\nbox c 2 in s\nbox d 1 in b\nbox e 2 in s")
        self.assert_answer(["b", "c", "e", "a", "d"], by_weight, world)


class Depths(Case):
    """[19]"""

    def test_depths(self):
        wanted = {"b": 3, "c": 1, "d": 2, "e": 3, "f": 1, "g": 2, "h": 4, "i": 1}
        for box, number in wanted.items():
            self.assert_answer(number, depth, nested(), box)
        for name in NO_BOXES:
            self.assert_error(Unknown, {"name": name}, depth, nested(), name)

    def test_heights(self):
        self.assert_answer(4, height, nested())
        self.assert_answer(2, height, parse_world(SHOWN))
        self.assert_answer(12, height, deep())
        self.assert_answer(1, height, flat())
        self.assert_answer(1, height, parse_world("shelf a\nbox b 1 in a"))


class Meeting(Case):
    def test_the_first_common_holder(self):
        self.assert_answer("d", meeting, nested(), "h", "e")
        self.assert_answer("d", meeting, nested(), "e", "h")
        self.assert_answer("f", meeting, nested(), "h", "g")
        self.assert_answer("p", meeting, nested(), "c", "i")

    def test_no_common_holder(self):
        self.assert_answer(None, meeting, nested(), "h", "c")
        self.assert_answer(None, meeting, nested(), "i", "f")

    def test_one_within_the_other(self):
        self.assert_answer("d", meeting, nested(), "h", "b")
        self.assert_answer("d", meeting, nested(), "b", "h")
        self.assert_answer("q", meeting, nested(), "h", "f")
        self.assert_answer("q", meeting, nested(), "f", "h")

    def test_a_box_with_itself(self):
        self.assert_answer("b", meeting, nested(), "h", "h")
        self.assert_answer("q", meeting, nested(), "f", "f")

    def test_what_is_not_a_box(self):
        for name in NO_BOXES:
            self.assert_error(Unknown, {"name": name}, meeting, nested(), name, "h")
            self.assert_error(Unknown, {"name": name}, meeting, nested(), "h", name)
            self.assert_error(Unknown, {"name": name}, meeting, nested(), name, "y")


class SubWorlds(Case):
    """[20]"""

    def test_of_a_shelf(self):
        wanted = parse_world("shelf p sealed\nbox c 2 in p nailed sealed\nbox i 4 in p")
        self.assert_answer(wanted, sub_world, nested(), "p")

    def test_of_a_sealed_box(self):
        found = sub_world(nested(), "d")
        self.assertEqual(
            format_world(found), "shelf d sealed\nbox b 5 in d nailed\nbox e 5 in d nailed sealed\nbox h 9 in b"
        )
        self.assert_answer(found, sub_world, nested(), "d")

    def test_the_nail_and_the_weight_of_the_box_are_not_kept(self):
        self.assertEqual(format_world(sub_world(nested(), "b")), "shelf b\nbox h 9 in b")
        found = sub_world(nested(), "f")
        self.assert_same(found.yard.shelves, ("f",))
        self.assert_same(found.yard.boxes, ("b", "d", "e", "g", "h"))
        self.assert_same((found.yard.nailed, found.yard.sealed), (("b", "e"), ("d", "e", "f")))
        self.assert_same(found.table(), {"b": "d", "d": "f", "e": "d", "g": "f", "h": "b"})

    def test_other_shelves_are_left_out(self):
        found = sub_world(nested(), "q")
        self.assert_same((found.yard.shelves, len(found)), (("q",), 6))
        self.assert_same(len(sub_world(deep(), "s")), 12)
        self.assert_same(sub_world(deep(), "b10").row, ("b10",))

    def test_where_nothing_lies(self):
        for holder in ["c", "e", "g", "h", "i", "r"]:
            self.assert_error(BadCount, {"what": "boxes", "many": 0}, sub_world, nested(), holder)
        for name in NO_HOLDERS:
            self.assert_error(Unknown, {"name": name}, sub_world, nested(), name)


class AllTogether(Case):
    def test_all_worlds_of_a_small_yard(self):
        worlds = all_small_worlds()
        self.assertEqual(len(worlds), 50)
        for world in worlds:
            depths = []
            for box in world:
                above = chain(world, box)
                self.assert_same(above[0], world.holder(box))
                for lower, upper in zip(above, above[1:]):
                    self.assert_same(world.holder(lower), upper)
                self.assertTrue(world.yard.is_shelf(above[-1]))
                self.assert_same(depth(world, box), len(above))
                depths.append(len(above))
                for holder in world.yard.holders:
                    self.assert_same(is_within(world, box, holder), holder in above)
                    self.assert_same(box in held(world, holder), world.holder(box) == holder)
                    self.assert_same(box in all_held(world, holder), holder in above)
                for other in world:
                    common = [holder for holder in above if holder in chain(world, other)]
                    self.assert_same(meeting(world, box, other), common[0] if common else None)
            self.assert_same(height(world), max(depths))
            self.assert_same(total_weight(world), 7)

    def test_answers_may_be_changed_without_changing_the_world(self):
        world = nested()
        for answer in [chain(world, "h"), held(world, "d"), all_held(world, "q"), by_weight(world)]:
            answer.clear()
        full_weights(world).clear()
        self.assertTrue(world == nested())
        self.assert_same(chain(world, "h"), ["b", "d", "f", "q"])


if __name__ == "__main__":
    unittest.main()
