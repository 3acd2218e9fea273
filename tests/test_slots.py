"""nestweigh/slots.py: points [3], [4] and [28] to [30]."""

import unittest

from nestweigh.bags import Bag
from nestweigh.deeds import exchange, possible_deeds
from nestweigh.errors import Unknown
from nestweigh.slots import bag, bags, fixed_boxes, free_boxes, free_weights, is_free, mark, pool, slots
from nestweigh.texts import parse_world
from nestweigh.worlds import World
from nestweigh.yards import Yard
from tests import slow
from tests.support import Case

SHOWN = "shelf a\nshelf b\nbox k 3 in a\nbox m 2 in b\nbox n 1 in m\nbox t 1 in a"
# c is nailed on an open shelf, d lies under a seal, e lies free in a nailed box, f in a sealed one.
MIXED = (
    "shelf a\nshelf b sealed\nshelf z\nbox c 2 in a nailed\nbox d 3 in b\nbox e 1 in c\nbox f 1 in g\n"
    "box g 2 in a sealed\nbox h 3 in a\nbox i 1 in d nailed sealed\nbox j 1 in a\nbox l 1 in a"
)
NO_BOXES = ["a", "b", "x", "", "C"]
NO_HOLDERS = ["x", "", "C", "no name"]


def shown():
    return parse_world(SHOWN)


def mixed():
    return parse_world(MIXED)


class Examples(Case):
    def test_of_the_document(self):
        self.assert_same(bags(parse_world(SHOWN)), {"a": (1, 3), "b": (3,), "k": (), "m": (1,), "n": (), "t": ()})
        self.assert_same(slots(parse_world(SHOWN), 1), {"a": 1, "m": 1})


class Free(Case):
    """[29]"""

    def test_boxes_that_are_not_nailed_and_not_directly_under_a_seal(self):
        wanted = {"c": False, "d": False, "e": True, "f": False, "g": True, "h": True, "i": False, "j": True}
        for box, free in wanted.items():
            self.assert_answer(free, is_free, mixed(), box)
        self.assert_answer(["e", "g", "h", "j", "l"], free_boxes, mixed())
        self.assert_answer(["c", "d", "f", "i"], fixed_boxes, mixed())

    def test_all_and_none(self):
        self.assert_answer(["k", "m", "n", "t"], free_boxes, shown())
        self.assert_answer([], fixed_boxes, shown())
        world = parse_world("shelf a sealed\nbox k 1 in a\nbox m 1 in k nailed")
        self.assert_answer([], free_boxes, world)
        self.assert_answer(["k", "m"], fixed_boxes, world)
        self.assert_answer([], free_weights, world)

    def test_what_is_not_a_box(self):
        for name in NO_BOXES:
            self.assert_error(Unknown, {"name": name}, is_free, mixed(), name)


class Bags(Case):
    """[28]"""

    def test_the_full_weights_of_what_lies_directly_in_a_holder(self):
        wanted = {"a": (1, 1, 3, 3, 3), "b": (4,), "c": (1,), "d": (1,), "e": (), "g": (1,), "z": ()}
        for holder, items in wanted.items():
            self.assert_answer(Bag(items), bag, mixed(), holder)
            self.assert_same(bags(mixed())[holder], items)

    def test_all_holders_ascending(self):
        self.assert_answer({
            "a": (1, 1, 3, 3, 3), "b": (4,), "c": (1,), "d": (1,), "e": (), "f": (), "g": (1,), "h": (), "i": (),
            "j": (), "l": (), "z": (),
        }, bags, mixed())

    def test_the_greatest_yard(self):
        names = [f"b{number:02}" for number in range(12)]
        world = World(Yard(["s"], {name: 10**9 for name in names}), {name: "s" for name in names})
        self.assert_answer(Bag([10**9] * 12), bag, world, "s")
        deep = World(Yard(["s"], {name: 10**9 for name in names}), dict(zip(names, ["s"] + names)))
        self.assert_answer(Bag([12 * 10**9]), bag, deep, "s")

    def test_what_is_not_a_holder(self):
        for name in NO_HOLDERS:
            self.assert_error(Unknown, {"name": name}, bag, mixed(), name)


class Pools(Case):
    """[29]"""

    def test_free_weights(self):
        self.assert_answer([1, 3], free_weights, mixed())
        self.assert_answer([1, 3], free_weights, shown())

    def test_free_weights_are_ascending(self):
        world = parse_world("shelf a\nbox k 8 in a\nbox l 1000000000 in a\nbox m 1 in a\nbox n 64 in a\nbox o 8 in a")
        self.assert_answer([1, 8, 64, 1000000000], free_weights, world)

    def test_pools(self):
        for weight, boxes in {1: ["e", "j", "l"], 3: ["g", "h"], 4: [], 0: [], -1: [], 10**3999: []}.items():
            self.assert_answer(boxes, pool, mixed(), weight)

    def test_slots(self):
        for weight, places in {1: {"a": 2, "c": 1}, 3: {"a": 2}, 4: {}, 0: {}, -1: {}, 10**3999: {}}.items():
            self.assert_answer(places, slots, mixed(), weight)
        world = parse_world("shelf p\nshelf q\nbox k 1 in q\nbox m 1 in p\nbox n 1 in q")
        self.assert_answer({"p": 1, "q": 2}, slots, world, 1)

    def test_slots_are_ascending_by_holder(self):
        world = parse_world("shelf y\nbox a 1 in z\nbox b 1 in y\nbox c 1 in d\nbox d 5 in y\nbox z 7 in y")
        self.assert_answer({"d": 1, "y": 1, "z": 1}, slots, world, 1)


class Marks(Case):
    """[30]"""

    def test_bags_and_fixed_boxes(self):
        wanted = (
            (("a", (1, 3)), ("b", (3,)), ("k", ()), ("m", (1,)), ("n", ()), ("t", ())), (),
        )
        self.assert_answer(wanted, mark, shown())
        found = mark(mixed())
        self.assert_same(found[0], tuple(bags(mixed()).items()))
        self.assert_same(found[1], (("c", "a"), ("d", "b"), ("f", "g"), ("i", "d")))

    def test_a_deed_changes_no_mark_pool_or_slot(self):
        for world in (shown(), mixed()):
            for first, second in possible_deeds(world):
                after = exchange(world, first, second)
                self.assert_same(mark(after), mark(world))
                self.assert_same(free_boxes(after), free_boxes(world))
                for weight in free_weights(world):
                    self.assert_same(pool(after, weight), pool(world, weight))
                    self.assert_same(slots(after, weight), slots(world, weight))

    def test_answers_may_be_changed(self):
        world = mixed()
        for answer in [free_boxes(world), fixed_boxes(world), free_weights(world), pool(world, 1)]:
            answer.clear()
        bags(world).clear()
        slots(world, 1).clear()
        self.assertTrue(world == mixed())
        self.assert_same(mark(world), mark(mixed()))


class AllTogether(Case):
    def test_small_yards(self):
        for yard in slow.small_yards():
            for row in slow.all_rows(yard):
                self.check(yard, row, World.from_row(yard, row), dict(zip(yard.boxes, row)))

    def check(self, yard, row, world, table):
        full = slow.weights(yard, row)
        wanted = {
            holder: tuple(sorted(full[box] for box in table if table[box] == holder)) for holder in yard.holders
        }
        free = [box for box in table if slow.is_free(yard, row, box)]
        fixed = [box for box in table if box not in free]
        self.assert_same(bags(world), wanted)
        self.assert_same((free_boxes(world), fixed_boxes(world)), (free, fixed))
        self.assert_same(mark(world), (tuple(wanted.items()), tuple((box, table[box]) for box in fixed)))
        self.assert_same(free_weights(world), sorted({full[box] for box in free}))
        for weight in range(6):
            boxes = [box for box in free if full[box] == weight]
            places = sorted(table[box] for box in boxes)
            self.assert_same(pool(world, weight), boxes)
            self.assert_same(slots(world, weight), {place: places.count(place) for place in places})


if __name__ == "__main__":
    unittest.main()
