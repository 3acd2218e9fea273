"""nestweigh/renamings.py: points [2], [3], [4] and [16]."""

import itertools
import unittest

from nestweigh.errors import BadName, Twice, Unknown
from nestweigh.renamings import Renaming, identity, rename_deeds, rename_world, rename_yard
from nestweigh.texts import format_world, parse_world, parse_yard
from nestweigh.worlds import World
from nestweigh.yards import Yard
from tests.support import Case

FORTY = [f"n{number:02}" for number in range(40)]
SHOWN = "shelf a\nshelf b sealed\nbox k 3 in a nailed\nbox m 2 in b sealed\nbox n 1 in m\nbox t 1 in a nailed sealed"
TURN = {"a": "x", "b": "a", "k": "y", "m": "b", "n": "z", "t": "k"}


class Making(Case):
    """[16]"""

    def test_each_name_becomes_its_new_name(self):
        renaming = Renaming({"b": "a", "a": "c"})
        self.assert_answer("a", renaming, "b")
        self.assert_answer("c", renaming, "a")

    def test_the_empty_renaming(self):
        empty = Renaming({})
        self.assert_same((len(empty), list(empty), empty.table()), (0, [], {}))
        self.assert_error(Unknown, {"name": "a"}, empty, "a")
        self.assertTrue(empty == ~empty)
        self.assertTrue(empty * empty == empty)

    def test_forty_names(self):
        renaming = Renaming(dict(zip(FORTY, reversed(FORTY))))
        self.assert_same((len(renaming), list(renaming)), (40, FORTY))
        self.assert_same([renaming(name) for name in FORTY], list(reversed(FORTY)))
        self.assertTrue(~renaming == renaming)
        self.assertTrue(renaming * renaming == identity(FORTY))

    def test_keys_and_values_that_are_not_names(self):
        self.assert_error(BadName, {"name": "A"}, Renaming, {"a": "b", "A": "B"})
        self.assert_error(BadName, {"name": "B"}, Renaming, {"a": "b", "c": "B"})
        self.assert_error(BadName, {"name": ""}, Renaming, {"": ""})
        self.assert_error(BadName, {"name": "abcdefghi"}, Renaming, {"a": "abcdefghi"})

    def test_a_value_twice(self):
        self.assert_error(Twice, {"name": "c"}, Renaming, {"a": "c", "b": "c"})
        self.assert_error(Twice, {"name": "d"}, Renaming, {"z": "c", "y": "d", "x": "d", "w": "c"})
        self.assert_error(Twice, {"name": "a"}, Renaming, {"a": "a", "b": "a"})

    def test_one_entry_after_the_other(self):
        self.assert_error(Twice, {"name": "c"}, Renaming, {"z": "c", "y": "c", "x": "C"})
        self.assert_error(BadName, {"name": "C"}, Renaming, {"z": "c", "y": "C", "x": "c"})
        self.assert_error(BadName, {"name": "Y"}, Renaming, {"z": "c", "Y": "c"})
        self.assert_error(BadName, {"name": "Y"}, Renaming, {"z": "c", "Y": "C"})

    def test_a_name_may_be_key_and_value(self):
        self.assert_same(Renaming({"a": "b", "b": "a", "c": "c"}).table(), {"a": "b", "b": "a", "c": "c"})

    def test_the_table_may_be_changed_afterwards(self):
        table = {"b": "x", "a": "y"}
        renaming = Renaming(table)
        table["b"] = "q"
        del table["a"]
        self.assert_same(renaming.table(), {"a": "y", "b": "x"})
        self.assert_same((renaming("a"), renaming("b"), len(renaming)), ("y", "x", 2))


class Asking(Case):
    def test_a_name_outside_of_the_domain(self):
        renaming = Renaming({"a": "b"})
        for name in ["b", "c", "", "A"]:
            self.assert_error(Unknown, {"name": name}, renaming, name)

    def test_the_table_ascends_and_is_new_each_time(self):
        renaming = Renaming({"c": "a", "a1": "z", "a": "m"})
        self.assert_answer({"a": "m", "a1": "z", "c": "a"}, renaming.table)
        renaming.table()["a"] = "q"
        self.assert_same(renaming("a"), "m")

    def test_length_and_iteration(self):
        renaming = Renaming({"c": "a", "a": "m", "b": "c"})
        self.assert_same((len(renaming), list(renaming)), (3, ["a", "b", "c"]))

    def test_equality(self):
        renaming = Renaming({"a": "b", "c": "d"})
        self.assert_same(renaming == Renaming({"c": "d", "a": "b"}), True)
        self.assert_same(renaming != Renaming({"c": "d", "a": "b"}), False)
        for other in [{}, {"a": "b"}, {"a": "d", "c": "b"}, {"a": "b", "c": "e"}, {"a": "b", "e": "d"},
                      {"a": "b", "c": "d", "e": "f"}]:
            self.assert_same((renaming == Renaming(other), Renaming(other) == renaming), (False, False))
            self.assert_same(renaming != Renaming(other), True)
        for other in [None, {"a": "b", "c": "d"}, ["a", "c"], "a", 2]:
            self.assert_same(renaming == other, False)


class Reckoning(Case):
    def test_the_inverse(self):
        renaming = Renaming({"a": "b", "b": "c", "d": "a"})
        self.assert_same((~renaming).table(), {"a": "d", "b": "a", "c": "b"})
        self.assertTrue(~~renaming == renaming)
        self.assert_same(renaming.table(), {"a": "b", "b": "c", "d": "a"})

    def test_the_product_does_the_second_one_first(self):
        r = Renaming({"a": "b", "b": "a", "c": "q", "d": "e"})
        s = Renaming({"x": "a", "y": "c"})
        self.assert_same((r * s).table(), {"x": "b", "y": "q"})
        self.assert_same((r.table(), s.table()), ({"a": "b", "b": "a", "c": "q", "d": "e"}, {"x": "a", "y": "c"}))
        self.assertIs(type(r * s), Renaming)

    def test_against_renaming_one_after_the_other(self):
        for first in itertools.permutations("abcd"):
            for second in itertools.permutations("abcd"):
                r, s = Renaming(dict(zip("abcd", first))), Renaming(dict(zip("abcd", second)))
                self.assert_same([(r * s)(name) for name in "abcd"], [r(s(name)) for name in "abcd"])

    def test_the_least_name_whose_new_name_is_unknown(self):
        def both(first, second):
            return first * second

        r = Renaming({"a": "x"})
        self.assert_error(Unknown, {"name": "z"}, both, r, Renaming({"c": "a", "b": "y", "a": "z"}))
        self.assert_error(Unknown, {"name": "b"}, both, r, Renaming({"d": "c", "c": "b", "b": "a"}))
        self.assert_error(Unknown, {"name": "q"}, both, Renaming({}), Renaming({"a": "q"}))
        self.assert_same((r * Renaming({})).table(), {})


class Identity(Case):
    def test_each_name_to_itself(self):
        self.assert_answer(Renaming({"a": "a", "b": "b"}), identity, ["b", "a"])
        self.assert_answer(Renaming({"a": "a", "b": "b"}), identity, ("b", "a", "b", "b"))
        self.assert_same(identity(["b", "a", "b"]).table(), {"a": "a", "b": "b"})

    def test_no_names_and_forty_names(self):
        self.assert_answer(Renaming({}), identity, [])
        self.assert_answer(Renaming({}), identity, ())
        self.assert_same(identity(FORTY + FORTY).table(), dict(zip(FORTY, FORTY)))

    def test_the_first_item_that_is_not_a_name(self):
        self.assert_error(BadName, {"name": "B"}, identity, ["a", "B", "A"])
        self.assert_error(BadName, {"name": ""}, identity, ("", "a", "A"))


class Renamed(Case):
    """[16]: the new names everywhere, with equal weights, nails and seals"""

    def test_a_yard(self):
        yard = Yard(["a", "b"], {"k": 3, "m": 2}, nailed=["k"], sealed=["a", "m"])
        wanted = Yard(["q", "a"], {"b": 3, "k": 2}, nailed=["b"], sealed=["q", "k"])
        self.assert_answer(wanted, rename_yard, yard, Renaming({"a": "q", "b": "a", "k": "b", "m": "k"}))

    def test_a_world(self):
        wanted = parse_world(
            "shelf a sealed\nshelf x\nbox b 2 in a sealed\nbox k 1 in x nailed sealed\n"
            "box y 3 in x nailed\nbox z 1 in b"
        )
        self.assert_answer(wanted, rename_world, parse_world(SHOWN), Renaming(TURN))

    def test_there_and_back(self):
        renaming = Renaming(TURN)
        world = parse_world(SHOWN)
        self.assertEqual(format_world(rename_world(rename_world(world, renaming), ~renaming)), SHOWN)
        self.assertTrue(rename_world(world, identity(world.yard.holders)) == world)
        self.assertTrue(rename_yard(world.yard, identity(world.yard.holders)) == world.yard)

    def test_one_after_the_other_is_the_product(self):
        world = parse_world(SHOWN)
        r = Renaming({"x": "p", "a": "x", "y": "a", "b": "o", "z": "z", "k": "t"})
        self.assertTrue(rename_world(rename_world(world, Renaming(TURN)), r) == rename_world(world, r * Renaming(TURN)))

    def test_the_domain_may_be_larger(self):
        world = parse_world("shelf a\nbox b 1 in a")
        renaming = Renaming({"a": "x", "b": "y", "c": "a", "z": "b"})
        self.assert_answer(parse_world("shelf x\nbox y 1 in x"), rename_world, world, renaming)
        self.assert_answer(parse_yard("shelf x\nbox y 1"), rename_yard, world.yard, renaming)

    def test_the_least_name_outside_of_the_domain(self):
        world = parse_world(SHOWN)
        for missing in [["a"], ["b", "t"], ["t", "n"], ["m", "k", "t"], list(TURN)]:
            renaming = Renaming({name: TURN[name] for name in TURN if name not in missing})
            self.assert_error(Unknown, {"name": min(missing)}, rename_yard, world.yard, renaming)
            self.assert_error(Unknown, {"name": min(missing)}, rename_world, world, renaming)

    def test_a_box_may_be_the_least_name(self):
        world = parse_world("shelf z\nbox c 1 in z\nbox d 1 in c")
        self.assert_error(Unknown, {"name": "c"}, rename_world, world, Renaming({"d": "d"}))
        self.assert_error(Unknown, {"name": "d"}, rename_yard, world.yard, Renaming({"c": "d"}))

    def test_the_greatest_world(self):
        names = [f"b{number:02}" for number in range(12)]
        yard = Yard(["s", "t", "u", "v"], {name: 7 for name in names}, nailed=names, sealed=["v"])
        world = World(yard, dict(zip(names, ["v"] + names)))
        table = {name: f"x{name}" for name in yard.holders}
        renamed = rename_world(world, Renaming(table))
        self.assertIs(type(renamed), World)
        self.assert_same(renamed.row, tuple([table[name] for name in world.row]))
        self.assert_same(renamed.yard.nailed, tuple([table[name] for name in names]))
        self.assert_same(renamed.yard.sealed, ("xv",))


class Deeds(Case):
    def test_both_names_are_renamed_the_lesser_new_name_first(self):
        renaming = Renaming({"a": "z", "b": "y", "c": "x"})
        self.assert_answer([("y", "z"), ("x", "z")], rename_deeds, [("a", "b"), ("c", "a")], renaming)
        self.assert_answer([("y", "z"), ("x", "y")], rename_deeds, (("b", "a"), ("b", "c")), renaming)

    def test_equal_names_and_no_deeds(self):
        self.assert_answer([("z", "z")], rename_deeds, [("a", "a")], Renaming({"a": "z"}))
        self.assert_answer([], rename_deeds, [], Renaming({}))
        self.assert_answer([], rename_deeds, (), Renaming({"a": "z"}))

    def test_five_hundred_deeds_in_their_order(self):
        deeds = [("a", "b"), ("b", "a"), ("c", "a"), ("b", "c"), ("a", "b")] * 100
        wanted = [("a", "b"), ("a", "b"), ("b", "c"), ("a", "c"), ("a", "b")] * 100
        self.assert_answer(wanted, rename_deeds, deeds, Renaming({"a": "b", "b": "a", "c": "c"}))

    def test_the_first_name_outside_of_the_domain(self):
        renaming = Renaming({"a": "z", "b": "y"})
        self.assert_error(Unknown, {"name": "q"}, rename_deeds, [("a", "b"), ("q", "p")], renaming)
        self.assert_error(Unknown, {"name": "q"}, rename_deeds, [("a", "q"), ("p", "a")], renaming)
        self.assert_error(Unknown, {"name": ""}, rename_deeds, (("b", ""), ("", "P")), renaming)
        self.assert_error(Unknown, {"name": "z"}, rename_deeds, [("z", "y")], renaming)


if __name__ == "__main__":
    unittest.main()
