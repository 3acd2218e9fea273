"""nestweigh/deeds.py: points [3], [4] and [21] to [24]."""

import itertools
import unittest

from nestweigh.deeds import exchange, is_possible, partners, possible_deeds, why_refused
from nestweigh.errors import Idle, Inside, Nailed, Refusal, Same, Sealed, Unknown, Unlike
from nestweigh.holding import full_weights
from nestweigh.texts import format_world, parse_world
from nestweigh.worlds import World
from nestweigh.yards import Yard
from tests import slow
from tests.support import Case

SHOWN = "shelf a\nshelf b\nbox k 3 in a\nbox m 2 in b\nbox n 1 in m\nbox t 1 in a"
# The boxes of one letter weigh 1; f and g lie on one shelf, p and q under a seal, u and v are nailed.
REASONS = (
    "shelf a\nshelf b\nshelf c sealed\nshelf d sealed\nbox f 1 in a\nbox g 1 in a\nbox h 1 in b\n"
    "box in 1 in out\nbox nin 1 in nout nailed\nbox nout 1 in b nailed\nbox out 1 in b sealed\nbox p 1 in c\n"
    "box q 1 in d\nbox u 1 in b nailed\nbox v 1 in a nailed\nbox w 1 in c nailed"
)
NO_BOXES = ["a", "c", "x", "", "F", "no name", "fffffffffffff", "1"]
ERRORS = {
    "unknown": (Unknown, ["name"]),
    "same": (Same, ["name"]),
    "inside": (Inside, ["inner", "outer"]),
    "unlike": (Unlike, ["first", "second", "first_weight", "second_weight"]),
    "nailed": (Nailed, ["name"]),
    "sealed": (Sealed, ["name"]),
    "idle": (Idle, ["name"]),
}


def shown():
    return parse_world(SHOWN)


class DeedCase(Case):
    def assert_refused(self, reason, world, first, second):
        """All functions of the file agree on the reason."""
        self.assert_answer(reason, why_refused, world, first, second)
        self.assert_answer(False, is_possible, world, first, second)
        error, names = ERRORS[reason[0]]
        self.assert_error(error, dict(zip(names, reason[1:])), exchange, world, first, second)

    def assert_possible(self, row, world, first, second):
        for names in [(first, second), (second, first)]:
            self.assert_answer(None, why_refused, world, *names)
            self.assert_answer(True, is_possible, world, *names)
            self.assert_answer(World.from_row(world.yard, row), exchange, world, *names)


class Examples(Case):
    def test_of_the_document(self):
        self.assert_same(possible_deeds(parse_world(SHOWN)), [("k", "m"), ("n", "t")])
        self.assert_same(why_refused(parse_world(SHOWN), "m", "n"), ("inside", "n", "m"))
        self.assert_same(why_refused(parse_world(SHOWN), "t", "k"), ("unlike", "t", "k", 1, 3))


class Exchanges(DeedCase):
    """[21], [23], [24]"""

    def test_both_get_the_holder_of_the_other(self):
        self.assert_possible(("b", "a", "m", "a"), shown(), "k", "m")
        self.assert_possible(("a", "b", "a", "m"), shown(), "n", "t")

    def test_what_lies_within_moves_along(self):
        world = parse_world("shelf a\nshelf b\nbox h 2 in a\nbox i 1 in h\nbox j 1 in i\nbox r 4 in b")
        self.assert_possible(("b", "h", "i", "a"), world, "h", "r")

    def test_a_nailed_box_moves_along_in_another(self):
        world = parse_world("shelf a\nshelf b\nbox h 2 in a\nbox i 1 in h nailed\nbox r 3 in b")
        self.assert_possible(("b", "h", "a"), world, "h", "r")
        self.assert_same(exchange(world, "h", "r").yard.nailed, ("i",))

    def test_a_seal_concerns_only_what_lies_directly_in_the_holder(self):
        world = parse_world("shelf a sealed\nshelf b\nbox h 2 in a\nbox i 1 in h\nbox r 1 in b")
        self.assert_possible(("a", "b", "h"), world, "i", "r")
        world = parse_world("shelf a\nshelf b\nbox h 2 in a sealed\nbox i 1 in h\nbox r 3 in b")
        self.assert_possible(("b", "h", "a"), world, "h", "r")

    def test_a_deed_done_again_takes_it_back(self):
        for first, second in possible_deeds(shown()):
            after = exchange(shown(), first, second)
            self.assertTrue(after.yard == shown().yard)
            self.assertFalse(after == shown())
            self.assert_same(full_weights(after), full_weights(shown()))
            self.assertTrue(exchange(after, second, first) == shown())

    def test_boxes_of_the_greatest_number_and_weight(self):
        names = [f"b{number:02}" for number in range(12)]
        yard = Yard(["s", "t"], {name: 10**9 for name in names})
        world = World(yard, {name: "st"[at % 2] for at, name in enumerate(names)})
        self.assert_same(len(possible_deeds(world)), 36)
        deep = World(yard, dict(zip(names, ["s"] + names)))
        self.assert_answer([], possible_deeds, deep)


class Reasons(DeedCase):
    """[22]: each reason alone, and the first one of several."""

    def world(self):
        return parse_world(REASONS)

    def test_unknown(self):
        for name in NO_BOXES:
            self.assert_refused(("unknown", name), self.world(), name, "f")
            self.assert_refused(("unknown", name), self.world(), "f", name)
            self.assert_refused(("unknown", name), self.world(), name, "y")
            self.assert_refused(("unknown", name), self.world(), name, name)
            self.assert_refused(("unknown", name), self.world(), "u", name)
            self.assert_refused(("unknown", name), self.world(), name, "p")

    def test_same(self):
        for name in ["f", "in", "p", "u", "w", "out"]:
            self.assert_refused(("same", name), self.world(), name, name)

    def test_inside(self):
        deep = parse_world("shelf a\nbox h 2 in a\nbox i 1 in h\nbox j 1 in i")
        for inner, outer in [("i", "h"), ("j", "h"), ("j", "i")]:
            self.assert_refused(("inside", inner, outer), deep, inner, outer)
            self.assert_refused(("inside", inner, outer), deep, outer, inner)
        for inner, outer in [("in", "out"), ("nin", "nout")]:
            self.assert_refused(("inside", inner, outer), self.world(), inner, outer)
            self.assert_refused(("inside", inner, outer), self.world(), outer, inner)

    def test_unlike(self):
        world = parse_world("shelf a\nshelf b\nbox h 2 in a\nbox i 3 in h\nbox r 4 in b")
        self.assert_refused(("unlike", "h", "r", 5, 4), world, "h", "r")
        self.assert_refused(("unlike", "r", "h", 4, 5), world, "r", "h")
        self.assert_refused(("unlike", "i", "r", 3, 4), world, "i", "r")

    def test_unlike_goes_before_nails_seals_and_holders(self):
        self.assert_refused(("unlike", "nout", "u", 2, 1), self.world(), "nout", "u")
        self.assert_refused(("unlike", "out", "p", 2, 1), self.world(), "out", "p")
        self.assert_refused(("unlike", "p", "out", 1, 2), self.world(), "p", "out")
        self.assert_refused(("unlike", "out", "h", 2, 1), self.world(), "out", "h")
        self.assert_refused(("unlike", "in", "nout", 1, 2), self.world(), "in", "nout")

    def test_nailed(self):
        self.assert_refused(("nailed", "u"), self.world(), "u", "f")
        self.assert_refused(("nailed", "u"), self.world(), "f", "u")
        self.assert_refused(("nailed", "u"), self.world(), "u", "v")
        self.assert_refused(("nailed", "v"), self.world(), "v", "u")

    def test_nailed_goes_before_seals_and_holders(self):
        self.assert_refused(("nailed", "w"), self.world(), "w", "f")
        self.assert_refused(("nailed", "w"), self.world(), "f", "w")
        self.assert_refused(("nailed", "u"), self.world(), "p", "u")
        self.assert_refused(("nailed", "w"), self.world(), "p", "w")
        self.assert_refused(("nailed", "u"), self.world(), "h", "u")
        self.assert_refused(("nailed", "v"), self.world(), "v", "f")

    def test_sealed(self):
        self.assert_refused(("sealed", "c"), self.world(), "p", "f")
        self.assert_refused(("sealed", "c"), self.world(), "f", "p")
        self.assert_refused(("sealed", "c"), self.world(), "p", "q")
        self.assert_refused(("sealed", "d"), self.world(), "q", "p")
        self.assert_refused(("sealed", "out"), self.world(), "f", "in")
        self.assert_refused(("sealed", "out"), self.world(), "in", "p")

    def test_sealed_goes_before_one_holder(self):
        world = parse_world("shelf a sealed\nbox h 1 in a\nbox i 1 in a")
        self.assert_refused(("sealed", "a"), world, "h", "i")

    def test_idle(self):
        self.assert_refused(("idle", "a"), self.world(), "f", "g")
        self.assert_refused(("idle", "a"), self.world(), "g", "f")
        world = parse_world("shelf a\nbox h 2 in a\nbox i 1 in h\nbox j 1 in h")
        self.assert_refused(("idle", "h"), world, "j", "i")

    def test_the_errors_are_refusals(self):
        for word in ["same", "inside", "unlike", "nailed", "sealed", "idle"]:
            self.assertTrue(issubclass(ERRORS[word][0], Refusal))
        self.assertFalse(issubclass(Unknown, Refusal))


class Lists(Case):
    def test_possible_deeds(self):
        self.assert_answer([("f", "h"), ("g", "h")], possible_deeds, parse_world(REASONS))
        self.assert_answer([], possible_deeds, parse_world("shelf a\nbox b 1 in a"))

    def test_partners(self):
        for box, others in {"f": ["h"], "h": ["f", "g"], "p": [], "u": [], "out": [], "in": []}.items():
            self.assert_answer(others, partners, parse_world(REASONS), box)
        self.assert_answer(["m"], partners, shown(), "k")

    def test_partners_of_what_is_not_a_box(self):
        for name in NO_BOXES:
            self.assert_error(Unknown, {"name": name}, partners, parse_world(REASONS), name)

    def test_answers_may_be_changed(self):
        world = shown()
        possible_deeds(world).append(("x", "y"))
        partners(world, "k").append("x")
        self.assert_same(possible_deeds(world), [("k", "m"), ("n", "t")])
        self.assert_same(partners(world, "k"), ["m"])
        self.assert_same(format_world(world), SHOWN)


class AllTogether(Case):
    """Every deed of every world of small yards against the words of [21] and [22]."""

    def test_small_yards(self):
        for yard in slow.small_yards():
            for row in slow.all_rows(yard):
                world = World.from_row(yard, row)
                wanted = dict(slow.deeds(yard, row))
                self.assert_same(possible_deeds(world), list(wanted))
                for pair in itertools.combinations(yard.boxes, 2):
                    self.assert_same(is_possible(world, *pair), pair in wanted)
                    if pair in wanted:
                        self.assert_same(exchange(world, *pair).row, wanted[pair])
                for box in yard.boxes:
                    others = [
                        other for other in yard.boxes if tuple(sorted((box, other))) in wanted
                    ]
                    self.assert_same(partners(world, box), others)


if __name__ == "__main__":
    unittest.main()
