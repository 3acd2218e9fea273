"""nestweigh/worlds.py: points [2], [3], [4], [12] and [13]."""

import itertools
import unittest

from nestweigh.errors import BadCount, Loop, NoHolder, OtherYard, Unknown
from nestweigh.worlds import World, require_same_yard
from nestweigh.yards import Yard
from tests.support import Case

YARD = Yard(["r", "s"], {"b": 2, "a": 1, "c": 3}, nailed=["b"], sealed=["s"])
TABLE = {"c": "r", "a": "b", "b": "c"}
TWELVE = [f"b{number:02}" for number in range(12)]


def shown():
    return World(YARD, TABLE)


def least_looped(table):
    """The least box that comes back to itself on its way up, found step by step."""
    for box in sorted(table):
        seen = []
        place = table[box]
        while place in table and place not in seen:
            seen.append(place)
            place = table[place]
        if box in seen:
            return box
    return None


class Making(Case):
    """[12] and [13]"""

    def test_a_world_keeps_its_yard_and_its_row(self):
        world = shown()
        self.assertTrue(world.yard == YARD)
        self.assertIs(type(world.yard), Yard)
        self.assert_same(world.row, ("b", "c", "r"))

    def test_the_order_of_the_entries_does_not_matter(self):
        for entries in itertools.permutations(TABLE.items()):
            world = World(YARD, dict(entries))
            self.assertTrue(world == shown())
            self.assert_same(list(world.table()), ["a", "b", "c"])
            self.assert_same(world.row, ("b", "c", "r"))

    def test_nails_and_seals_do_not_hinder(self):
        yard = Yard(["s"], {"a": 1, "b": 1}, nailed=["a", "b"], sealed=["a", "b", "s"])
        self.assert_same(World(yard, {"a": "b", "b": "s"}).row, ("b", "s"))

    def test_twelve_boxes_deep_and_flat(self):
        yard = Yard(["s"], {box: 1 for box in TWELVE})
        deep = dict(zip(TWELVE, ["s"] + TWELVE))
        self.assert_same(World(yard, deep).row, tuple(["s"] + TWELVE[:11]))
        self.assert_same(World(yard, {box: "s" for box in TWELVE}).row, ("s",) * 12)
        turned = dict(zip(TWELVE, TWELVE[1:] + ["s"]))
        self.assert_same(World(yard, turned).row, tuple(TWELVE[1:] + ["s"]))
        deep["b00"] = "b11"
        self.assert_error(Loop, {"name": "b00"}, World, yard, deep)

    def test_one_box(self):
        world = World(Yard(["s"], {"a": 1}), {"a": "s"})
        self.assert_same((world.row, len(world), list(world)), (("s",), 1, ["a"]))

    def test_the_table_may_be_changed_afterwards(self):
        table = dict(TABLE)
        world = World(YARD, table)
        table["a"] = "r"
        del table["b"]
        self.assert_same((world.row, world.holder("b")), (("b", "c", "r"), "c"))


class Faults(Case):
    """[3] and [12]"""

    def test_a_key_that_is_not_a_box(self):
        for name in ["r", "s", "x", "", "A"]:
            self.assert_error(Unknown, {"name": name}, World, YARD, {"a": "r", name: "s", "b": "r", "c": "r"})

    def test_a_value_that_is_not_a_holder(self):
        for name in ["x", "", "A"]:
            self.assert_error(Unknown, {"name": name}, World, YARD, {"a": "r", "b": name, "c": "r"})

    def test_one_entry_after_the_other(self):
        self.assert_error(Unknown, {"name": "y"}, World, YARD, {"c": "y", "x": "r"})
        self.assert_error(Unknown, {"name": "x"}, World, YARD, {"x": "z", "c": "y"})
        self.assert_error(Unknown, {"name": "x"}, World, YARD, {"x": "r", "a": "y"})

    def test_the_least_box_without_an_entry(self):
        self.assert_error(NoHolder, {"name": "a"}, World, YARD, {})
        self.assert_error(NoHolder, {"name": "b"}, World, YARD, {"a": "r"})
        self.assert_error(NoHolder, {"name": "a"}, World, YARD, {"c": "r", "b": "r"})
        self.assert_error(NoHolder, {"name": "c"}, World, YARD, {"b": "r", "a": "r"})

    def test_names_before_missing_boxes_before_loops(self):
        self.assert_error(Unknown, {"name": "x"}, World, YARD, {"c": "x"})
        self.assert_error(NoHolder, {"name": "c"}, World, YARD, {"b": "a", "a": "b"})
        self.assert_error(Unknown, {"name": "x"}, World, YARD, {"a": "a", "b": "b", "c": "x"})

    def test_the_least_box_that_lies_within_itself(self):
        self.assert_error(Loop, {"name": "c"}, World, YARD, {"a": "r", "b": "r", "c": "c"})
        self.assert_error(Loop, {"name": "a"}, World, YARD, {"c": "c", "b": "b", "a": "a"})
        self.assert_error(Loop, {"name": "b"}, World, YARD, {"a": "r", "b": "c", "c": "b"})
        self.assert_error(Loop, {"name": "a"}, World, YARD, {"a": "b", "b": "c", "c": "a"})

    def test_a_box_in_a_loop_of_others_does_not_lie_within_itself(self):
        self.assert_error(Loop, {"name": "b"}, World, YARD, {"a": "b", "b": "c", "c": "b"})
        self.assert_error(Loop, {"name": "c"}, World, YARD, {"a": "b", "b": "c", "c": "c"})

    def test_all_rows_of_three_boxes(self):
        worlds = 0
        for row in itertools.product(YARD.holders, repeat=3):
            looped = least_looped(dict(zip(YARD.boxes, row)))
            if looped is None:
                self.assert_same(World(YARD, dict(zip(YARD.boxes, row))).row, row)
                self.assertTrue(World.from_row(YARD, row) == World(YARD, dict(zip(YARD.boxes, row))))
                worlds += 1
            else:
                self.assert_error(Loop, {"name": looped}, World, YARD, dict(zip(YARD.boxes, row)))
                self.assert_error(Loop, {"name": looped}, World.from_row, YARD, row)
        # The forests of three boxes on two shelves, by Cayley's formula.
        self.assertEqual(worlds, 2 * 5**2)


class Asking(Case):
    def test_holder(self):
        world = shown()
        self.assert_answer("b", world.holder, "a")
        self.assert_answer("c", world.holder, "b")
        self.assert_answer("r", world.holder, "c")
        for name in ["r", "s", "x", "", "A"]:
            self.assert_error(Unknown, {"name": name}, world.holder, name)

    def test_the_table_ascends_and_is_new_each_time(self):
        world = shown()
        self.assert_answer({"a": "b", "b": "c", "c": "r"}, world.table)
        world.table()["a"] = "s"
        self.assert_same((world.holder("a"), world.row), ("b", ("b", "c", "r")))

    def test_length_and_iteration(self):
        self.assert_same(len(shown()), 3)
        self.assert_same(list(shown()), ["a", "b", "c"])

    def test_worlds_of_one_yard_are_ordered_by_their_rows(self):
        rows = [("r", "r", "r"), ("b", "r", "r"), ("r", "r", "a")]
        found = sorted([World.from_row(YARD, row).row for row in rows])
        self.assert_same(found, [("b", "r", "r"), ("r", "r", "a"), ("r", "r", "r")])


class Equality(Case):
    """[13]"""

    def test_equal_worlds(self):
        self.assert_same(shown() == shown(), True)
        self.assert_same(shown() != shown(), False)
        again = Yard(("s", "r"), {"c": 3, "b": 2, "a": 1}, nailed=("b",), sealed=("s",))
        self.assert_same(World(again, TABLE) == shown(), True)

    def test_another_row_or_another_yard(self):
        others = [World(YARD, {"a": "b", "b": "c", "c": "s"}), World(YARD, {"a": "c", "b": "c", "c": "r"})]
        for yard in [
            YARD.changed(nailed=[]),
            YARD.changed(sealed=["r"]),
            YARD.changed(boxes={"a": 2, "b": 2, "c": 3}),
            Yard(["r", "t"], {"a": 1, "b": 2, "c": 3}, nailed=["b"], sealed=["t"]),
        ]:
            others.append(World(yard, TABLE))
        for other in others:
            self.assert_same((shown() == other, other == shown(), shown() != other), (False, False, True))

    def test_a_world_equals_nothing_else(self):
        for other in [None, ("b", "c", "r"), TABLE, YARD, ["a", "b", "c"], "a", 3]:
            self.assert_same(shown() == other, False)


class Moved(Case):
    def test_one_box_gets_another_holder(self):
        world = shown()
        self.assert_answer(World(YARD, {"a": "s", "b": "c", "c": "r"}), world.moved, "a", "s")
        self.assert_answer(World(YARD, {"a": "b", "b": "r", "c": "r"}), world.moved, "b", "r")
        self.assertTrue(world == shown())

    def test_to_where_it_lies(self):
        self.assert_answer(shown(), shown().moved, "a", "b")

    def test_what_lies_in_it_comes_along(self):
        self.assert_same(shown().moved("b", "s").table(), {"a": "b", "b": "s", "c": "r"})

    def test_errors(self):
        world = shown()
        for name in ["r", "x", "", "A"]:
            self.assert_error(Unknown, {"name": name}, world.moved, name, "s")
            self.assert_error(Unknown, {"name": name}, world.moved, name, "y")
        for holder in ["x", "", "A"]:
            self.assert_error(Unknown, {"name": holder}, world.moved, "a", holder)

    def test_loops(self):
        world = shown()
        self.assert_error(Loop, {"name": "c"}, world.moved, "c", "c")
        self.assert_error(Loop, {"name": "b"}, world.moved, "c", "b")
        self.assert_error(Loop, {"name": "a"}, world.moved, "c", "a")
        self.assert_error(Loop, {"name": "a"}, world.moved, "b", "a")


class FromRow(Case):
    def test_a_list_or_a_tuple(self):
        self.assert_answer(shown(), World.from_row, YARD, ["b", "c", "r"])
        self.assert_answer(shown(), World.from_row, YARD, ("b", "c", "r"))
        self.assertIs(type(World.from_row(YARD, ["b", "c", "r"])), World)
        self.assert_same(World.from_row(YARD, ["b", "c", "r"]).row, ("b", "c", "r"))

    def test_the_row_of_a_world_gives_it_again(self):
        self.assertTrue(World.from_row(YARD, shown().row) == shown())

    def test_another_length(self):
        for row in [[], ("r",), ["r", "r"], ["r"] * 4, ["x"] * 40, ("b", "a", "x", "y")]:
            self.assert_error(BadCount, {"what": "holders", "many": len(row)}, World.from_row, YARD, row)

    def test_the_first_item_that_is_not_a_holder(self):
        self.assert_error(Unknown, {"name": "x"}, World.from_row, YARD, ["r", "x", "y"])
        self.assert_error(Unknown, {"name": "y"}, World.from_row, YARD, ("a", "r", "y"))
        self.assert_error(Unknown, {"name": ""}, World.from_row, YARD, ["", "x", "y"])

    def test_loops_last(self):
        self.assert_error(Loop, {"name": "a"}, World.from_row, YARD, ["b", "a", "c"])
        self.assert_error(Unknown, {"name": "x"}, World.from_row, YARD, ["b", "a", "x"])

    def test_the_row_may_be_changed_afterwards(self):
        row = ["b", "c", "r"]
        world = World.from_row(YARD, row)
        row[0] = "r"
        self.assert_same(world.row, ("b", "c", "r"))


class SameYard(Case):
    def test_equal_yards(self):
        self.assert_answer(None, require_same_yard, shown(), shown())
        self.assert_answer(None, require_same_yard, shown(), shown().moved("a", "s"))
        again = Yard(("s", "r"), {"c": 3, "b": 2, "a": 1}, nailed=("b",), sealed=("s",))
        self.assert_answer(None, require_same_yard, shown(), World(again, {"a": "r", "b": "r", "c": "r"}))

    def test_unequal_yards(self):
        for yard in [YARD.changed(nailed=[]), YARD.changed(boxes={"a": 1, "b": 2, "c": 4})]:
            self.assert_error(OtherYard, {}, require_same_yard, shown(), World(yard, TABLE))
            self.assert_error(OtherYard, {}, require_same_yard, World(yard, TABLE), shown())


if __name__ == "__main__":
    unittest.main()
