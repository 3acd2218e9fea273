"""nestweigh/repairs.py: points [2], [3], [4], [5], [67] and [68]."""

import itertools
import random
import unittest

from nestweigh.errors import BadWeight, NoChange, OtherYard, Unknown
from nestweigh.passage import comes
from nestweigh.repairs import (
    is_repair,
    least_repair,
    nails_to_draw,
    repaired,
    seals_to_break,
    unequal_holders,
    weighings,
)
from nestweigh.texts import parse_world, parse_yard
from nestweigh.worlds import World
from tests import slow
from tests.support import WEIRD, Case, wrong_things

START = "shelf a\nshelf b\nbox k 2 in a\nbox m 3 in b"
GOAL = "shelf a\nshelf b\nbox k 2 in b\nbox m 3 in a"
# k is nailed and moves, m moves under the seal of c; n is nailed and stays; d is sealed and nothing of it moves.
MARKED = (
    "shelf a\nshelf b\nshelf c sealed\nshelf d sealed\nbox k 1 in a nailed\nbox m 1 in c\nbox n 1 in a nailed\n"
    "box o 1 in b sealed\nbox p 1 in b"
)
NO_WEIGHTS = [0, -1, 10**9 + 1, 10**3999, True, False, None, "1", ""]


def start():
    return parse_world(START)


def goal():
    return parse_world(GOAL)


def marked():
    return parse_world(MARKED)


def changed_goal():
    """MARKED with k and p, and m and o, in each other's holders."""
    return marked().moved("k", "b").moved("p", "a").moved("m", "b").moved("o", "c")


class Marks(Case):
    """[67]: nails_to_draw and seals_to_break; unequal_holders"""

    def test_nails_and_seals(self):
        for first, second in ((marked(), changed_goal()), (changed_goal(), marked())):
            self.assert_answer(["k"], nails_to_draw, first, second)
            self.assert_answer(["c"], seals_to_break, first, second)
            self.assert_answer([], unequal_holders, first, second)

    def test_equal_worlds(self):
        for call in (nails_to_draw, seals_to_break, unequal_holders, weighings):
            self.assert_answer([], call, marked(), marked())
        self.assert_answer(([], [], []), least_repair, marked(), marked())

    def test_seals_of_boxes_and_of_one_world_alone(self):
        found = marked().moved("p", "o")
        self.assert_answer(["o"], seals_to_break, marked(), found)
        self.assert_answer(["o"], seals_to_break, found, marked())
        self.assert_answer([], nails_to_draw, marked(), found)
        self.assert_answer(["d", "o"], seals_to_break, found, marked().moved("p", "d"))
        self.assert_answer(["c", "d"], seals_to_break, marked(), marked().moved("m", "d"))
        self.assert_answer(["k", "n"], nails_to_draw, marked(), marked().moved("n", "k").moved("k", "d"))

    def test_unequal_holders(self):
        self.assert_answer(["b", "o"], unequal_holders, marked(), marked().moved("p", "o"))
        self.assert_answer(["a", "d"], unequal_holders, marked(), marked().moved("k", "d"))
        self.assert_answer(["b", "k", "m"], unequal_holders, marked(), marked().moved("p", "k").moved("o", "m"))
        self.assert_answer([], unequal_holders, start(), goal())

    def test_other_yards(self):
        for text in [START.replace("k 2", "k 4"), START.replace("in b", "in b nailed"), "shelf a\nbox k 2 in a"]:
            for first, second in ((start(), parse_world(text)), (parse_world(text), start())):
                for call in (nails_to_draw, seals_to_break, unequal_holders, weighings, least_repair):
                    self.assert_error(OtherYard, {}, call, first, second)
                for more in [([], [], []), ([None], ["zz"], [()]), (["k", "k"], [], [])]:
                    self.assert_error(OtherYard, {}, is_repair, first, second, *more)


class Weighings(Case):
    """[68]"""

    def test_example(self):
        self.assert_answer([("k", 3), ("m", 2)], weighings, start(), goal())
        self.assert_answer([("k", 3), ("m", 2)], weighings, goal(), start())

    def test_equal_bags(self):
        same = parse_world(START.replace("m 3", "m 2"))
        self.assert_answer([], weighings, same, same.moved("k", "b").moved("m", "a"))
        self.assert_answer(([], [], []), least_repair, same, same.moved("k", "b").moved("m", "a"))

    def test_a_box_that_does_not_move(self):
        first = parse_world("shelf a\nshelf b\nbox h 1 in a\nbox i 2 in b\nbox k 1 in h\nbox m 1 in b\nbox n 3 in a")
        # n and i exchange holders; only a change within h makes them alike.
        second = parse_world("shelf a\nshelf b\nbox h 1 in b\nbox i 2 in b\nbox k 1 in h\nbox m 1 in a\nbox n 3 in a")
        self.assert_answer([("m", 2)], weighings, first, second)
        first = parse_world("shelf a\nshelf b\nbox h 1 in a\nbox i 3 in b\nbox k 1 in h")
        second = first.moved("h", "b").moved("i", "a")
        self.assert_answer([("h", 2), ("i", 2), ("k", 2)], weighings, first, second)

    def test_no_weighing(self):
        # Three unlike weights turned round, other numbers of boxes, and a weight that would be too small.
        first = parse_world("shelf a\nshelf b\nshelf c\nbox k 1 in a\nbox m 2 in b\nbox n 3 in c")
        second = first.moved("k", "b").moved("m", "c").moved("n", "a")
        self.assert_answer([], weighings, first, second)
        self.assert_answer(None, least_repair, first, second)
        self.assert_answer([], weighings, start(), start().moved("k", "b"))
        self.assert_answer(None, least_repair, start(), start().moved("k", "b"))

    def test_weights_that_are_none(self):
        # n would have to weigh 0, and h even less; k can be made as heavy as it need be.
        for inner in (1, 3):
            first = parse_world(f"shelf a\nshelf b\nbox h 1 in a\nbox k 1 in b\nbox n {inner} in h")
            second = first.moved("h", "b").moved("k", "a")
            wanted = [("k", inner + 1)]
            self.assert_answer(wanted, weighings, first, second)
        # At the greatest own weight, and one above it.
        first = parse_world("shelf a\nshelf b\nbox k 1000000000 in a\nbox m 1 in b")
        second = first.moved("k", "b").moved("m", "a")
        self.assert_answer([("k", 1), ("m", 1000000000)], weighings, first, second)
        first = parse_world("shelf a\nshelf b\nbox k 1000000000 in a\nbox l 1 in k\nbox m 1 in b")
        second = first.moved("k", "b").moved("m", "a")
        self.assert_answer([], weighings, first, second)
        self.assert_answer(None, least_repair, first, second)

    def test_boxes_that_change_places_within_each_other(self):
        first = parse_world("shelf a\nbox k 2 in a\nbox m 3 in k")
        second = parse_world("shelf a\nbox k 2 in m\nbox m 3 in a")
        self.assert_answer([], weighings, first, second)
        self.assert_answer(["k", "m"], unequal_holders, first, second)
        first = parse_world("shelf a\nshelf b\nbox k 2 in a\nbox m 3 in k\nbox n 1 in b\nbox o 7 in n")
        second = parse_world("shelf a\nshelf b\nbox k 2 in a\nbox m 3 in n\nbox n 1 in b\nbox o 7 in k")
        self.assert_answer([("m", 7), ("o", 3)], weighings, first, second)


class LeastRepairs(Case):
    """[67]: least_repair, repaired and is_repair"""

    def test_nails_seals_and_weights(self):
        first = parse_world("shelf a\nshelf b sealed\nbox k 2 in a nailed\nbox m 3 in b\nbox n 1 in a")
        second = first.moved("k", "b").moved("m", "a")
        self.assert_answer((["k"], ["b"], [("k", 3)]), least_repair, first, second)
        self.assert_answer(True, is_repair, first, second, ["k"], ["b"], [("k", 3)])
        self.assert_answer((["k"], ["c"], []), least_repair, marked(), changed_goal())
        self.assert_answer(True, is_repair, marked(), changed_goal(), ["k"], ["c"], [])
        self.assert_answer(([], [], [("k", 3)]), least_repair, start(), goal())

    def test_repaired(self):
        found = repaired(marked(), nails=["n", "k"], seals=("o", "d"), weights=[("p", 10**9), ("k", 7)])
        self.assert_same(found, parse_world(
            "shelf a\nshelf b\nshelf c sealed\nshelf d\nbox k 7 in a\nbox m 1 in c\nbox n 1 in a\nbox o 1 in b\n"
            "box p 1000000000 in b"
        ))
        self.assert_answer(marked(), repaired, marked())
        self.assert_answer(marked(), repaired, marked(), nails=[], seals=(), weights=[])
        self.assert_answer(
            parse_world(MARKED.replace("k 1 in a nailed", "k 1 in a")), repaired, marked(), nails=("k",)
        )

    def test_errors_of_repaired(self):
        for name in ["zz", "", "a", "K"]:
            self.assert_error(Unknown, {"name": name}, repaired, marked(), nails=["k", name, "m", "zz"])
            self.assert_error(Unknown, {"name": name}, repaired, marked(), weights=[("k", 2), (name, 0), ("m", 1)])
        for name in ["zz", "", "K"]:
            self.assert_error(Unknown, {"name": name}, repaired, marked(), seals=["c", name, "a"])
        for name in ["m", "o"]:
            self.assert_error(NoChange, {"name": name}, repaired, marked(), nails=["k", name, "zz"])
        for name in ["a", "m"]:
            self.assert_error(NoChange, {"name": name}, repaired, marked(), seals=("d", name, "zz"))
        self.assert_error(NoChange, {"name": "k"}, repaired, marked(), nails=["k", "n", "k"])
        self.assert_error(NoChange, {"name": "o"}, repaired, marked(), seals=["o", "c", "o"])
        self.assert_error(NoChange, {"name": "k"}, repaired, marked(), weights=[("k", 2), ("m", 2), ("k", 3)])
        self.assert_error(NoChange, {"name": "k"}, repaired, marked(), weights=[("k", 2), ("k", 1)])
        self.assert_error(NoChange, {"name": "k"}, repaired, marked(), weights=(("k", 1), ("zz", 1)))
        for weight in NO_WEIGHTS:
            self.assert_error(BadWeight, {"weight": weight}, repaired, marked(), weights=[("k", 2), ("m", weight)])
            self.assert_error(BadWeight, {"weight": weight}, repaired, marked(), weights=[("k", 2), ("k", weight)])
            self.assert_error(Unknown, {"name": "zz"}, repaired, marked(), weights=[("zz", weight)])

    def test_the_first_error_is_told(self):
        more = {"nails": ["m"], "seals": ["zz"], "weights": [("zz", 0)]}
        self.assert_error(NoChange, {"name": "m"}, repaired, marked(), **more)
        more["nails"] = ["k"]
        self.assert_error(Unknown, {"name": "zz"}, repaired, marked(), **more)
        more["seals"] = ["a"]
        self.assert_error(NoChange, {"name": "a"}, repaired, marked(), **more)
        more["seals"] = ["k"]
        self.assert_error(NoChange, {"name": "k"}, repaired, marked(), **more)
        more["seals"] = ["c"]
        more["weights"] = [("k", 0), ("zz", 1)]
        self.assert_error(BadWeight, {"weight": 0}, repaired, marked(), **more)

    def test_a_name_may_stand_in_each_of_the_three(self):
        world = parse_world("shelf a\nbox k 1 in a nailed sealed")
        wanted = parse_world("shelf a\nbox k 2 in a")
        self.assert_answer(wanted, repaired, world, nails=["k"], seals=["k"], weights=[("k", 2)])

    def test_repairs_that_are_not_the_least(self):
        for nails, seals, weights, wanted in [
            (["k"], ["c"], [], True), (["k", "n"], ["c"], [], True), (["n", "k"], ["d", "c", "o"], [], True),
            ([], ["c"], [], False), (["k"], [], [], False), (["n"], ["c"], [], False), (["k"], ["d"], [], False),
            (["k"], ["c"], [("n", 5)], True), (["k"], ["c"], [("k", 5)], False),
            (["k"], ["c"], [("k", 5), ("p", 5)], True), (["k"], ["c"], [("k", 5), ("p", 5), ("m", 2), ("o", 2)], True),
            (["k"], ["c"], [("k", 5), ("p", 6)], False),
        ]:
            self.assert_answer(wanted, is_repair, marked(), changed_goal(), nails, seals, weights)
            self.assert_answer(
                wanted, is_repair, marked(), changed_goal(), tuple(nails), tuple(seals), tuple(weights)
            )

    def test_several_weights_anew(self):
        first = parse_world("shelf a\nshelf b\nshelf c\nbox k 1 in a\nbox m 2 in b\nbox n 3 in c")
        second = first.moved("k", "b").moved("m", "c").moved("n", "a")
        self.assert_answer(True, is_repair, first, second, [], [], [("k", 3), ("m", 3)])
        self.assert_answer(False, is_repair, first, second, [], [], [("k", 3)])

    def test_what_repaired_would_refuse(self):
        for nails, seals, weights in [
            (["k", "k"], ["c"], []), (["k", "m"], ["c"], []), (["k", "zz"], ["c"], []), (["k", "a"], ["c"], []),
            (["k"], ["c", "c"], []), (["k"], ["c", "a"], []), (["k"], ["c", "zz"], []), (["k"], ["c"], [("n", 1)]),
            (["k"], ["c"], [("n", 2), ("n", 2)]), (["k"], ["c"], [("n", 2), ("n", 3)]), (["k"], ["c"], [("zz", 2)]),
            (["k"], ["c"], [("a", 2)]), (["k"], ["c"], [("n", 0)]), (["k"], ["c"], [("n", 10**9 + 1)]),
            (["k"], ["c"], [("n", None)]), (["k"], ["c"], [("n", "2")]),
        ]:
            self.assert_answer(False, is_repair, marked(), changed_goal(), nails, seals, weights)

    def test_wrong_parts(self):
        given = [["k"], ["c"], [("n", 5)]]
        self.assert_answer(True, is_repair, marked(), changed_goal(), *given)
        for at in range(3):
            for changed in wrong_things(given[at]):
                parts = given[:at] + [changed] + given[at + 1:]
                wanted = at == 2 and self.is_right_weights(changed)
                self.assert_same(is_repair(marked(), changed_goal(), *parts), wanted)
            for part in WEIRD:
                parts = given[:at] + [given[at] + [part]] + given[at + 1:]
                self.assert_same(is_repair(marked(), changed_goal(), *parts), False)
                parts = given[:at] + [(part,)] + given[at + 1:]
                self.assert_same(is_repair(marked(), changed_goal(), *parts), False)
        self.assert_answer(False, is_repair, marked(), changed_goal(), ["k"], ["c"], [["n", 5]])
        self.assert_answer(False, is_repair, marked(), changed_goal(), ["k"], ["c"], [("n",)])
        self.assert_answer(False, is_repair, marked(), changed_goal(), ["k"], ["c"], [("n", 5, 5)])
        self.assert_answer(False, is_repair, marked(), changed_goal(), ["k"], ["c"], [("n", (5,))])

    def is_right_weights(self, changed):
        """Whether the changed weights are right still: n may weigh anything, and need not be weighed."""
        return len(changed) == 0


def slow_bags(yard, row, own):
    """For each holder the sorted full weights of what lies directly in it, with these own weights."""
    full = dict(own)
    for box in yard.boxes:
        for holder in slow.above(yard, row, box):
            if holder in full:
                full[holder] += own[box]
    return {name: sorted(full[box] for box, at in zip(yard.boxes, row) if at == name) for name in yard.holders}


class AllTogether(Case):
    """Against trying all numbers up to the weight of all boxes together."""

    def test_small_yards(self):
        chance = random.Random(17)
        several = 0
        yards = slow.small_yards() + [
            parse_yard(text) for text in [
                "shelf a\nshelf b\nbox k 1\nbox m 2\nbox n 3", "shelf a\nbox k 4\nbox m 1\nbox n 2",
                "shelf a\nshelf b\nbox k 1\nbox m 3\nbox n 2\nbox t 1",
            ]
        ]
        for yard in yards:
            rows = slow.all_rows(yard)
            for _ in range(60):
                first, second = chance.choice(rows), chance.choice(rows)
                if chance.random() < 0.7:
                    # The same numbers of boxes everywhere: the row in another order.
                    orders = [row for row in set(itertools.permutations(first)) if row in rows]
                    second = chance.choice(sorted(orders))
                several += self.check(yard, first, second)
        self.assertGreater(several, 20)

    def check(self, yard, first, second):
        start, goal = World.from_row(yard, first), World.from_row(yard, second)
        own = {box: yard.own(box) for box in yard.boxes}
        wanted = []
        same = slow_bags(yard, first, own) == slow_bags(yard, second, own)
        if not same:
            for box in yard.boxes:
                for weight in range(1, sum(own.values()) + 2):
                    anew = {**own, box: weight}
                    if weight != own[box] and slow_bags(yard, first, anew) == slow_bags(yard, second, anew):
                        wanted.append((box, weight))
        self.assert_same(weighings(start, goal), wanted)
        move = [box for box, one, other in zip(yard.boxes, first, second) if one != other]
        nails = [box for box in move if box in yard.nailed]
        table = [(dict(zip(yard.boxes, first))[box], dict(zip(yard.boxes, second))[box]) for box in move]
        seals = [name for name in yard.sealed if name in set(itertools.chain(*table))]
        self.assert_same(nails_to_draw(start, goal), nails)
        self.assert_same(seals_to_break(start, goal), seals)
        self.assert_same(unequal_holders(start, goal), [
            name for name in yard.holders if first.count(name) != second.count(name)
        ])
        found = least_repair(start, goal)
        self.assert_same(found, (nails, seals, wanted[:1]) if same or wanted else None)
        if found is not None:
            self.assertTrue(is_repair(start, goal, *found))
            more = {"nails": nails, "seals": seals, "weights": wanted[:1]}
            self.assertTrue(comes(repaired(start, **more), repaired(goal, **more)))
            for at, names in enumerate((nails, seals)):
                for name in names:
                    less = [other for other in names if other != name]
                    parts = [less if at == 0 else nails, less if at == 1 else seals, found[2]]
                    self.assert_same(is_repair(start, goal, *parts), False)
        return len(wanted) > 1


if __name__ == "__main__":
    unittest.main()
