"""nestweigh/yards.py: points [2], [3], [4] and [11]."""

import itertools
import unittest

from nestweigh.errors import BadCount, BadName, BadWeight, Twice, Unknown
from nestweigh.yards import Yard
from tests.support import Case

GREAT = 10**3999
TWELVE = {f"b{number}": number + 1 for number in range(12)}
THIRTEEN = {f"b{number}": number + 1 for number in range(13)}


def small_yard():
    return Yard(["s", "r"], {"k": 3, "b": 10, "k1": 1}, nailed=["k1", "b"], sealed=["s", "k"])


class Making(Case):
    """[11]"""

    def test_the_parts_ascend(self):
        yard = small_yard()
        self.assert_same(yard.shelves, ("r", "s"))
        self.assert_same(yard.boxes, ("b", "k", "k1"))
        self.assert_same(yard.nailed, ("b", "k1"))
        self.assert_same(yard.sealed, ("k", "s"))
        self.assert_same(yard.holders, ("b", "k", "k1", "r", "s"))

    def test_no_nails_and_no_seals(self):
        yard = Yard(("a",), {"b": 1})
        self.assert_same((yard.nailed, yard.sealed, yard.holders), ((), (), ("a", "b")))

    def test_the_order_of_what_is_passed_does_not_matter(self):
        wanted = Yard(["r", "s"], {"b": 2, "k": 3}, nailed=["b", "k"], sealed=["b", "s"])
        for shelves in itertools.permutations(["r", "s"]):
            for boxes in itertools.permutations([("b", 2), ("k", 3)]):
                for nailed in itertools.permutations(["b", "k"]):
                    for sealed in itertools.permutations(["b", "s"]):
                        yard = Yard(list(shelves), dict(boxes), nailed=list(nailed), sealed=sealed)
                        self.assertTrue(yard == wanted)
                        self.assert_same(yard.boxes, ("b", "k"))
                        self.assert_same((yard.nailed, yard.sealed), (("b", "k"), ("b", "s")))
                        self.assert_same(list(yard), ["b", "k"])

    def test_the_least_and_the_greatest_yard(self):
        least = Yard(["a"], {"b": 1})
        self.assert_same((len(least), least.own("b")), (1, 1))
        names = list(TWELVE)
        greatest = Yard(["a", "c", "d", "e"], TWELVE, nailed=names, sealed=names + ["e", "d", "c", "a"])
        self.assert_same(len(greatest), 12)
        self.assert_same(len(greatest.holders), 16)
        self.assert_same(greatest.sealed, greatest.holders)
        self.assert_same(Yard(["a"], {"b": 1000000000}).own("b"), 1000000000)

    def test_the_class_values(self):
        self.assert_same((Yard.MOST_SHELVES, Yard.MOST_BOXES), (4, 12))
        self.assert_same((small_yard().MOST_SHELVES, small_yard().MOST_BOXES), (4, 12))

    def test_what_was_passed_may_be_changed_afterwards(self):
        shelves, boxes, nailed, sealed = ["a"], {"b": 1, "c": 2}, ["b"], ["a"]
        yard = Yard(shelves, boxes, nailed=nailed, sealed=sealed)
        shelves.append("x")
        boxes["b"] = 7
        del boxes["c"]
        nailed.append("c")
        sealed.clear()
        self.assert_same((yard.shelves, yard.boxes, yard.own("b")), (("a",), ("b", "c"), 1))
        self.assert_same((yard.nailed, yard.sealed, len(yard)), (("b",), ("a",), 2))
        self.assertTrue(yard == Yard(["a"], {"b": 1, "c": 2}, nailed=["b"], sealed=["a"]))


class Counts(Case):
    """[3] and [11]: the numbers of shelves and boxes are looked at before all else."""

    def test_shelves(self):
        self.assert_error(BadCount, {"what": "shelves", "many": 0}, Yard, [], {"b": 1})
        self.assert_error(BadCount, {"what": "shelves", "many": 5}, Yard, list("acdef"), {"b": 1})
        self.assert_error(BadCount, {"what": "shelves", "many": 0}, Yard, (), {}, nailed=["x"])

    def test_items_are_counted_not_names(self):
        self.assert_error(BadCount, {"what": "shelves", "many": 5}, Yard, ["a"] * 5, {"b": 1})
        self.assert_error(BadCount, {"what": "shelves", "many": 6}, Yard, [""] * 6, THIRTEEN)

    def test_boxes(self):
        self.assert_error(BadCount, {"what": "boxes", "many": 0}, Yard, ["a"], {})
        self.assert_error(BadCount, {"what": "boxes", "many": 13}, Yard, ["a"], THIRTEEN)

    def test_boxes_are_counted_before_names_are_looked_at(self):
        self.assert_error(BadCount, {"what": "boxes", "many": 0}, Yard, ["A", "A"], {}, sealed=["x"])
        self.assert_error(BadCount, {"what": "boxes", "many": 13}, Yard, ["a", "a"], THIRTEEN)


class Shelves(Case):
    def test_names(self):
        self.assert_error(BadName, {"name": "A"}, Yard, ["a", "A", "B"], {"b": 1})
        self.assert_error(BadName, {"name": ""}, Yard, ("", "a", "a"), {"b": 1})

    def test_a_shelf_twice(self):
        self.assert_error(Twice, {"name": "a"}, Yard, ["a", "a"], {"b": 1})
        self.assert_error(Twice, {"name": "c"}, Yard, ["a", "c", "c", "a"], {"b": 1})

    def test_one_shelf_after_the_other(self):
        self.assert_error(Twice, {"name": "a"}, Yard, ["a", "a", "A"], {"b": 1})
        self.assert_error(BadName, {"name": "A"}, Yard, ["a", "A", "a"], {"b": 1})
        self.assert_error(BadName, {"name": "A"}, Yard, ["A", "A"], {"b": 1})

    def test_shelves_before_boxes(self):
        self.assert_error(Twice, {"name": "a"}, Yard, ["a", "a"], {"B": 0}, nailed=["x"])


class Boxes(Case):
    def test_names(self):
        self.assert_error(BadName, {"name": "B"}, Yard, ["a"], {"b": 1, "B": 1, "C": 1})
        self.assert_error(BadName, {"name": "abcdefghi"}, Yard, ["a"], {"abcdefghi": 0})

    def test_a_name_of_a_shelf(self):
        self.assert_error(Twice, {"name": "a"}, Yard, ["c", "a"], {"b": 1, "a": 1, "c": 1})
        self.assert_error(Twice, {"name": "a"}, Yard, ["a"], {"a": 0})

    def test_own_weights(self):
        for weight in [0, -1, 1000000001, GREAT, True, False, None, "1", ""]:
            self.assert_error(BadWeight, {"weight": weight}, Yard, ["a"], {"b": 1, "c": weight, "d": 0})

    def test_one_box_after_the_other_in_the_order_of_the_dict(self):
        self.assert_error(BadWeight, {"weight": 0}, Yard, ["a"], {"z": 0, "B": 1, "a": 1})
        self.assert_error(Twice, {"name": "a"}, Yard, ["a"], {"a": 1, "z": 0, "B": 1})
        self.assert_error(BadName, {"name": "B"}, Yard, ["a"], {"B": 0, "a": 0, "z": 0})

    def test_boxes_before_nails(self):
        self.assert_error(BadWeight, {"weight": 0}, Yard, ["a"], {"b": 0}, nailed=["x"], sealed=["x"])


class NailsAndSeals(Case):
    def test_only_boxes_are_nailed(self):
        self.assert_error(Unknown, {"name": "a"}, Yard, ["a"], {"b": 1}, nailed=["b", "a"])
        self.assert_error(Unknown, {"name": "x"}, Yard, ["a"], {"b": 1}, nailed=("x", "a"))
        self.assert_error(Unknown, {"name": "B"}, Yard, ["a"], {"b": 1}, nailed=["B"])

    def test_only_holders_are_sealed(self):
        self.assert_error(Unknown, {"name": "x"}, Yard, ["a"], {"b": 1}, sealed=["a", "b", "x"])
        self.assert_error(Unknown, {"name": ""}, Yard, ["a"], {"b": 1}, sealed=("", "x"))

    def test_a_name_twice(self):
        self.assert_error(Twice, {"name": "b"}, Yard, ["a"], {"b": 1, "c": 1}, nailed=["b", "c", "b"])
        self.assert_error(Twice, {"name": "a"}, Yard, ["a"], {"b": 1}, sealed=["a", "b", "a", "b"])

    def test_one_name_after_the_other(self):
        self.assert_error(Twice, {"name": "b"}, Yard, ["a"], {"b": 1}, nailed=["b", "b", "x"])
        self.assert_error(Unknown, {"name": "x"}, Yard, ["a"], {"b": 1}, nailed=["b", "x", "b"])
        self.assert_error(Unknown, {"name": "x"}, Yard, ["a"], {"b": 1}, sealed=["x", "x"])
        self.assert_error(Twice, {"name": "b"}, Yard, ["a"], {"b": 1}, sealed=["b", "b", "x"])

    def test_nails_before_seals(self):
        self.assert_error(Twice, {"name": "b"}, Yard, ["a"], {"b": 1}, nailed=["b", "b"], sealed=["x"])

    def test_a_box_may_be_both(self):
        yard = Yard(["a"], {"b": 1}, nailed=["b"], sealed=["b"])
        self.assert_same((yard.nailed, yard.sealed), (("b",), ("b",)))


class Asking(Case):
    def test_own(self):
        yard = small_yard()
        self.assert_answer(3, yard.own, "k")
        self.assert_answer(10, yard.own, "b")
        for name in ["r", "s", "x", "", "K"]:
            self.assert_error(Unknown, {"name": name}, yard.own, name)

    def test_is_nailed(self):
        yard = small_yard()
        self.assert_answer(True, yard.is_nailed, "b")
        self.assert_answer(True, yard.is_nailed, "k1")
        self.assert_answer(False, yard.is_nailed, "k")
        for name in ["r", "s", "x", "", "K"]:
            self.assert_error(Unknown, {"name": name}, yard.is_nailed, name)

    def test_is_sealed(self):
        yard = small_yard()
        self.assert_answer(True, yard.is_sealed, "s")
        self.assert_answer(True, yard.is_sealed, "k")
        self.assert_answer(False, yard.is_sealed, "r")
        self.assert_answer(False, yard.is_sealed, "b")
        for name in ["x", "", "S"]:
            self.assert_error(Unknown, {"name": name}, yard.is_sealed, name)

    def test_is_box_and_is_shelf(self):
        yard = small_yard()
        for name in ["b", "k", "k1", "r", "s", "x", "", "K", "not a name", "abcdefghij"]:
            self.assert_answer(name in ("b", "k", "k1"), yard.is_box, name)
            self.assert_answer(name in ("r", "s"), yard.is_shelf, name)

    def test_length_iteration_and_membership(self):
        yard = small_yard()
        self.assert_same(len(yard), 3)
        self.assert_same(list(yard), ["b", "k", "k1"])
        for name in ["b", "k", "k1"]:
            self.assert_same(name in yard, True)
        for name in ["r", "s", "x", "", "K"]:
            self.assert_same(name in yard, False)


class Equality(Case):
    def test_equal_yards(self):
        self.assert_same(small_yard() == small_yard(), True)
        self.assert_same(small_yard() != small_yard(), False)

    def test_each_part_counts(self):
        shelves, boxes = ["a", "c"], {"b": 1, "d": 2}
        yard = Yard(shelves, boxes, nailed=["b"], sealed=["c"])
        others = [
            Yard(["a"], boxes, nailed=["b"], sealed=["a"]),
            Yard(["a", "e"], boxes, nailed=["b"], sealed=["a"]),
            Yard(["a", "c", "e"], boxes, nailed=["b"], sealed=["c"]),
            Yard(shelves, {"b": 1, "d": 3}, nailed=["b"], sealed=["c"]),
            Yard(shelves, {"b": 2, "d": 1}, nailed=["b"], sealed=["c"]),
            Yard(shelves, {"b": 1, "e": 2}, nailed=["b"], sealed=["c"]),
            Yard(shelves, {"b": 1}, nailed=["b"], sealed=["c"]),
            Yard(shelves, boxes, nailed=["d"], sealed=["c"]),
            Yard(shelves, boxes, nailed=["b", "d"], sealed=["c"]),
            Yard(shelves, boxes, sealed=["c"]),
            Yard(shelves, boxes, nailed=["b"], sealed=["a"]),
            Yard(shelves, boxes, nailed=["b"], sealed=["b"]),
            Yard(shelves, boxes, nailed=["b"]),
        ]
        for other in others:
            self.assert_same((yard == other, other == yard, yard != other), (False, False, True))

    def test_a_yard_equals_nothing_else(self):
        for other in [None, "s", 3, ("b", "k", "k1"), ["b", "k", "k1"], {"b": 10, "k": 3, "k1": 1}]:
            self.assert_same(small_yard() == other, False)


class Changed(Case):
    def test_nothing_is_replaced(self):
        yard = small_yard()
        self.assert_answer(yard, yard.changed)
        self.assertIs(type(yard.changed()), Yard)

    def test_each_part_alone(self):
        yard = small_yard()
        self.assert_answer(
            Yard(["r", "s"], {"k": 4, "b": 1, "k1": 2, "x": 9}, nailed=["k1", "b"], sealed=["s", "k"]),
            yard.changed, boxes={"x": 9, "k1": 2, "b": 1, "k": 4},
        )
        self.assert_answer(
            Yard(["r", "s"], {"k": 3, "b": 10, "k1": 1}, nailed=["k"], sealed=["s", "k"]),
            yard.changed, nailed=["k"],
        )
        self.assert_answer(
            Yard(["r", "s"], {"k": 3, "b": 10, "k1": 1}, nailed=["k1", "b"], sealed=["r"]),
            yard.changed, sealed=("r",),
        )
        self.assertTrue(yard == small_yard())

    def test_all_parts_at_once(self):
        yard = small_yard()
        self.assert_answer(
            Yard(["r", "s"], {"z": 5}, nailed=["z"], sealed=["z", "r"]),
            yard.changed, boxes={"z": 5}, nailed=["z"], sealed=["z", "r"],
        )

    def test_empty_parts_replace_too(self):
        yard = small_yard()
        self.assert_answer(Yard(["r", "s"], {"k": 3, "b": 10, "k1": 1}, sealed=["s", "k"]), yard.changed, nailed=[])
        self.assert_answer(Yard(["r", "s"], {"k": 3, "b": 10, "k1": 1}, nailed=["k1", "b"]), yard.changed, sealed=())
        self.assert_error(BadCount, {"what": "boxes", "many": 0}, yard.changed, boxes={})

    def test_kept_names_are_looked_up_again(self):
        yard = small_yard()
        self.assert_error(Unknown, {"name": "b"}, yard.changed, boxes={"z": 1})
        self.assert_error(Unknown, {"name": "k1"}, yard.changed, boxes={"b": 1})
        self.assert_error(Unknown, {"name": "k"}, yard.changed, boxes={"k1": 1, "b": 1})
        self.assert_error(Unknown, {"name": "k"}, yard.changed, boxes={"z": 1}, nailed=[])
        self.assert_error(Unknown, {"name": "b"}, yard.changed, boxes={"z": 1}, sealed=[])
        wanted = Yard(["r", "s"], {"z": 1}, sealed=["s"])
        self.assert_answer(wanted, yard.changed, boxes={"z": 1}, nailed=[], sealed=["s"])

    def test_the_least_kept_name_goes_first(self):
        yard = Yard(["a"], {"d": 1, "c": 1, "b": 1}, nailed=["d", "c", "b"], sealed=["d", "c", "b"])
        self.assert_error(Unknown, {"name": "c"}, yard.changed, boxes={"b": 1})
        self.assert_error(Unknown, {"name": "b"}, yard.changed, boxes={"c": 1})
        self.assert_error(Unknown, {"name": "c"}, yard.changed, boxes={"b": 1}, nailed=["b"])

    def test_kept_nails_before_passed_and_kept_seals(self):
        yard = small_yard()
        self.assert_error(Unknown, {"name": "b"}, yard.changed, boxes={"k1": 1, "k": 1}, sealed=["a"])
        self.assert_error(Unknown, {"name": "x"}, yard.changed, boxes={"k1": 1, "b": 1}, nailed=["x"])
        self.assert_error(Unknown, {"name": "y"}, yard.changed, nailed=["y"], sealed=["x"])

    def test_the_errors_of_yard(self):
        yard = small_yard()
        self.assert_error(BadCount, {"what": "boxes", "many": 13}, yard.changed, boxes=THIRTEEN)
        self.assert_error(BadName, {"name": "K"}, yard.changed, boxes={"K": 0, "s": 0})
        self.assert_error(Twice, {"name": "s"}, yard.changed, boxes={"s": 0, "K": 0})
        self.assert_error(BadWeight, {"weight": True}, yard.changed, boxes={"x": True, "s": 0}, nailed=["y"])
        self.assert_error(Twice, {"name": "k"}, yard.changed, nailed=["k", "k"], sealed=["x"])
        self.assert_error(Twice, {"name": "r"}, yard.changed, sealed=["r", "r"])
        self.assert_error(Unknown, {"name": "r"}, yard.changed, nailed=["r"])

    def test_what_was_passed_may_be_changed_afterwards(self):
        boxes, nailed = {"z": 5}, ["z"]
        yard = small_yard().changed(boxes=boxes, nailed=nailed, sealed=[])
        boxes["z"] = 6
        nailed.clear()
        self.assert_same((yard.own("z"), yard.nailed), (5, ("z",)))


if __name__ == "__main__":
    unittest.main()
