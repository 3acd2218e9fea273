"""nestweigh/fewest.py: points [3], [4], [5], [40] and [41]."""

import itertools
import unittest

from nestweigh.deeds import exchange
from nestweigh.errors import NotComing, OtherYard, TooMany
from nestweigh.fewest import (
    certificate,
    circuit_deeds,
    fewest,
    is_certificate,
    moving_weights,
    shortest,
    web_of,
)
from nestweigh.histories import moving
from nestweigh.passage import bar, is_history
from nestweigh.texts import parse_world
from nestweigh.webs import Web
from nestweigh.worlds import World
from nestweigh.yards import Yard
from tests import slow
from tests.support import WEIRD, Case, wrong_things

SHOWN = "shelf a\nshelf b\nbox k 3 in a\nbox m 2 in b\nbox n 1 in m\nbox t 1 in a"
# Two pools on the same shelves, and a nailed box of the lighter one.
MIXED = (
    "shelf a\nshelf b\nshelf c\nbox f 1 in a\nbox g 1 in b\nbox h 1 in c\nbox i 1 in c\nbox p 2 in a\nbox q 2 in b\n"
    "box r 1 in a nailed"
)
ROUNDS = (
    "shelf a\nshelf b\nshelf c\nbox k 1 in a\nbox l 1 in b\nbox m 1 in c\nbox n 1 in b\nbox o 1 in a\nbox p 1 in c"
)
NAMES = [f"b{number:02}" for number in range(12)]


def shown():
    return parse_world(SHOWN)


def mixed():
    return parse_world(MIXED)


def placed(world, **places):
    """The world in which these boxes have these holders."""
    return World(world.yard, {**world.table(), **places})


def turned(many, shelves="stuv"):
    """Two worlds of twelve equal boxes: on the way so many of them go on to the next shelf."""
    yard = Yard(list(shelves), {name: 1 for name in NAMES})
    start = [shelves[at % len(shelves)] for at in range(12)]
    goal = [shelves[(at + (at < many)) % len(shelves)] for at in range(12)]
    return World.from_row(yard, start), World.from_row(yard, goal)


def seven():
    """Two worlds with seven moving boxes: a round of four places and one of three."""
    start = turned(0)[0]
    return start, placed(start, b00="t", b01="u", b02="v", b03="s", b04="t", b05="u", b06="s")


def wide_six():
    """Two worlds with six moving boxes of one weight: three pairs change their shelves."""
    start = turned(0)[0]
    return start, placed(start, b00="t", b01="s", b02="v", b03="u", b04="t", b05="s")


class MovingWeights(Case):
    """[40]"""

    def test_each_once_and_ascending(self):
        self.assert_answer([], moving_weights, mixed(), mixed())
        self.assert_answer([1], moving_weights, mixed(), placed(mixed(), f="b", g="a"))
        self.assert_answer([2], moving_weights, mixed(), placed(mixed(), p="b", q="a"))
        self.assert_answer([1, 2], moving_weights, mixed(), placed(mixed(), p="b", q="a", f="c", h="b", g="a"))
        self.assert_answer([3], moving_weights, shown(), exchange(shown(), "k", "m"))

    def test_many_weights(self):
        weights = [64, 8, 1, 1000000000]
        yard = Yard(["s", "t"], {NAMES[at]: weights[at // 2] for at in range(8)})
        start = World(yard, {NAMES[at]: "st"[at % 2] for at in range(8)})
        goal = World(yard, {NAMES[at]: "ts"[at % 2] for at in range(8)})
        self.assert_answer([1, 8, 64, 1000000000], moving_weights, start, goal)
        self.assert_answer(4, fewest, start, goal)


class Webs(Case):
    """[40]: web_of"""

    def test_the_moving_boxes_of_a_weight(self):
        goal = placed(mixed(), p="b", q="a", f="c", h="b", g="a")
        self.assert_answer(Web([("f", "a", "c"), ("h", "c", "b"), ("g", "b", "a")]), web_of, mixed(), goal, 1)
        self.assert_answer(Web([("p", "a", "b"), ("q", "b", "a")]), web_of, mixed(), goal, 2)

    def test_no_box_of_the_weight_moves(self):
        for weight in (0, 1, -1, 3, 10**3999, -10**3999):
            self.assert_answer(Web([]), web_of, mixed(), placed(mixed(), p="b", q="a"), weight)

    def test_a_box_and_a_place_of_one_name(self):
        world = parse_world("shelf s\nbox a 5 in s\nbox b 5 in s\nbox c 1 in a\nbox d 1 in b")
        goal = placed(world, c="b", d="a")
        self.assert_answer(Web([("c", "a", "b"), ("d", "b", "a")]), web_of, world, goal, 1)

    def test_webs_of_any_size(self):
        for many in (0, 4, 8, 12):
            start, goal = turned(many)
            self.assert_same(len(web_of(start, goal, 1)), many)
            self.assert_same([arrow[0] for arrow in web_of(start, goal, 1)], moving(start, goal))


class CircuitDeeds(Case):
    """[41]"""

    def test_along_the_boxes(self):
        self.assert_answer([("a", "c"), ("b", "c")], circuit_deeds, ["a", "c", "b"])
        self.assert_answer([("a", "b")], circuit_deeds, ("b", "a"))
        self.assert_answer([], circuit_deeds, ["a"])
        self.assert_answer([], circuit_deeds, [])
        self.assert_answer([], circuit_deeds, ())

    def test_names_are_not_looked_up_and_may_be_equal(self):
        self.assert_answer([("", "Z"), ("Z", "Z"), ("Z", "no name")], circuit_deeds, ["", "Z", "Z", "no name"])

    def test_they_bring_each_box_to_its_new_holder(self):
        start, goal = turned(4)
        for at in range(4):
            boxes = NAMES[at:4] + NAMES[:at]
            self.assertTrue(is_history(start, goal, circuit_deeds(boxes)))


class Fewest(Case):
    """[40]: fewest and shortest"""

    def assert_fewest(self, number, start, goal):
        self.assert_answer(number, fewest, start, goal)
        deeds = shortest(start, goal)
        self.assert_answer(deeds, shortest, start, goal)
        self.assert_same(len(deeds), number)
        self.assert_same(deeds, [tuple(sorted(deed)) for deed in deeds])
        self.assertTrue(is_history(start, goal, deeds))
        paper = certificate(start, goal)
        self.assert_answer(paper, certificate, start, goal)
        self.assert_answer(True, is_certificate, start, goal, paper, number)
        for other in (number - 1, number + 1, -number - 1):
            self.assert_answer(False, is_certificate, start, goal, paper, other)

    def test_equal_worlds(self):
        self.assert_fewest(0, shown(), shown())
        self.assert_answer([], shortest, shown(), shown())
        self.assert_answer([], certificate, shown(), shown())

    def test_one_and_two_deeds(self):
        goal = exchange(shown(), "k", "m")
        self.assert_fewest(1, shown(), goal)
        self.assert_fewest(2, shown(), exchange(goal, "n", "t"))
        self.assert_answer([(3, [["k", "m"]], [0, 0, 0, 1])], certificate, shown(), goal)

    def test_no_weight_hinders_another(self):
        goal = placed(mixed(), p="b", q="a", f="c", h="b", g="a")
        self.assert_fewest(3, mixed(), goal)
        self.assert_same([row[0] for row in certificate(mixed(), goal)], [1, 2])

    def test_six_arrows(self):
        self.assert_fewest(3, *wide_six())
        start = turned(0)[0]
        self.assert_fewest(4, start, placed(start, b00="t", b01="u", b02="v", b03="s", b04="t", b05="s"))

    def test_the_greatest_number_of_circuits_counts(self):
        # Two rounds of three places would need 4 deeds, three pairs need 3.
        world = parse_world(ROUNDS)
        self.assert_fewest(3, world, placed(world, k="b", l="c", m="a", n="a", o="c", p="b"))

    def test_several_full_webs(self):
        yard = Yard(["s", "t"], {name: 1 + at // 6 for at, name in enumerate(NAMES)})
        start = World(yard, {name: "st"[at % 2] for at, name in enumerate(NAMES)})
        goal = World(yard, {name: "ts"[at % 2] for at, name in enumerate(NAMES)})
        self.assert_fewest(6, start, goal)

    def test_against_trying_every_deed(self):
        for text in slow.CLASSES:
            world = parse_world(text)
            rows = slow.distances(world.yard, world.row)
            for first in sorted(rows)[::2]:
                reached = slow.distances(world.yard, first)
                for second in sorted(rows):
                    start, goal = World.from_row(world.yard, first), World.from_row(world.yard, second)
                    number = reached[second]
                    self.assert_same(fewest(start, goal), number)
                    deeds = shortest(start, goal)
                    self.assert_same(len(deeds), number)
                    self.assertTrue(is_history(start, goal, deeds))
                    self.assertTrue(is_certificate(start, goal, certificate(start, goal), number))


class Errors(Case):
    CALLS = (moving_weights, fewest, shortest, certificate)

    def all_raise(self, error, attributes, start, goal):
        for call in self.CALLS:
            self.assert_error(error, attributes, call, start, goal)
        self.assert_error(error, attributes, web_of, start, goal, 1)
        for paper in ([], [None], [(1, [], [])], ["x"]):
            self.assert_error(error, attributes, is_certificate, start, goal, paper, 0)

    def test_other_yards_go_first(self):
        for text in [SHOWN.replace("k 3", "k 4"), SHOWN.replace("k 3 in a", "k 3 in a nailed"), MIXED]:
            self.all_raise(OtherYard, {}, shown(), parse_world(text))
            self.all_raise(OtherYard, {}, parse_world(text), shown())

    def test_a_goal_that_does_not_come(self):
        for goal in [placed(mixed(), f="b"), placed(mixed(), r="b", g="a"), placed(mixed(), f="p")]:
            paper = bar(mixed(), goal)
            self.assertIsNotNone(paper)
            self.all_raise(NotComing, {"bar": paper}, mixed(), goal)

    def test_not_coming_goes_before_too_many(self):
        start, goal = seven()
        barred = placed(goal, b07="s")
        self.all_raise(NotComing, {"bar": bar(start, barred)}, start, barred)

    def test_more_than_six_arrows(self):
        for many, (start, goal) in [(7, seven()), (8, turned(8)), (12, turned(12))]:
            for call in (fewest, shortest, certificate):
                self.assert_error(TooMany, {"many": many, "limit": 6}, call, start, goal)
            for paper in ([], [None], [(1, [], [])], ["x"]):
                self.assert_error(TooMany, {"many": many, "limit": 6}, is_certificate, start, goal, paper, 0)
            self.assert_answer([1], moving_weights, start, goal)

    def test_too_many_whatever_the_parts(self):
        names = list("abcdefgh")
        yard = Yard(list("stuv"), {name: 1 for name in names})
        start = World.from_row(yard, "stststuv")
        goal = placed(start, a="t", b="s", c="t", d="s", e="t", f="s", g="v", h="u")
        self.assert_same(web_of(start, goal, 1).parts(), [["a", "b", "c", "d", "e", "f"], ["g", "h"]])
        self.assert_error(TooMany, {"many": 8, "limit": 6}, fewest, start, goal)

    def test_too_many_in_the_greater_of_two_weights(self):
        names = NAMES[:9]
        yard = Yard(list("stu"), {name: 1 if at < 2 else 5 for at, name in enumerate(names)})
        start = World.from_row(yard, "st" + "stustut")
        goal = World.from_row(yard, "ts" + "tustuts")
        self.assert_same(len(web_of(start, goal, 5)), 7)
        for call in (fewest, shortest, certificate):
            self.assert_error(TooMany, {"many": 7, "limit": 6}, call, start, goal)


class Certificates(Case):
    """[5], [38]: is_certificate"""

    def both(self):
        goal = placed(mixed(), p="b", q="a", f="c", h="b", g="a")
        return mixed(), goal, certificate(mixed(), goal)

    def test_other_right_ones(self):
        start, goal, paper = self.both()
        (light, (circuit,), table), heavy = paper
        for boxes in (circuit[1:] + circuit[:1], circuit[2:] + circuit[:2]):
            self.assert_answer(True, is_certificate, start, goal, [(light, [boxes], table), heavy], 3)
        greater = table[:-1] + [table[-1] + 1]
        for number in (2, 3):
            self.assert_answer(False, is_certificate, start, goal, [(light, [circuit], greater), heavy], number)
        # Sets that do not leave out all of the circuit may have greater entries.
        greater = [entry + 1 for entry in table[:-1]] + [table[-1]]
        self.assert_answer(False, is_certificate, start, goal, [(light, [circuit], greater), heavy], 3)
        greater = [0] + greater[1:]
        self.assert_answer(True, is_certificate, start, goal, [(light, [circuit], greater), heavy], 3)

    def test_a_table_may_be_greater_but_for_its_last_entry(self):
        start, goal = wide_six()
        web = web_of(start, goal, 1)
        (weight, circuits, table), = certificate(start, goal)
        found = 0
        for at in range(63):
            changed = list(table)
            changed[at] += 1
            right = web.is_bound(changed, 3)
            found += right
            self.assert_answer(right, is_certificate, start, goal, [(weight, circuits, changed)], 3)
        self.assertGreater(found, 0)

    def test_fewer_circuits_than_the_greatest_number(self):
        world = parse_world(ROUNDS)
        goal = placed(world, k="b", l="c", m="a", n="a", o="c", p="b")
        (weight, circuits, table), = certificate(world, goal)
        self.assert_same(len(circuits), 3)
        fewer = [["k", "l", "m"], ["n", "o", "p"]]
        self.assertTrue(web_of(world, goal, 1).is_split(fewer))
        for number in (3, 4):
            self.assert_answer(False, is_certificate, world, goal, [(weight, fewer, table)], number)
            self.assert_answer(False, is_certificate, world, goal, [(weight, fewer, table[:-1] + [2])], number)

    def test_weights_that_are_left_out_doubled_or_in_another_order(self):
        start, goal, paper = self.both()
        empty = (4, [], [0])
        for wrong in [
            [], paper[:1], paper[1:], paper[::-1], paper + paper, paper + [paper[1]], paper + [empty], [empty] + paper,
        ]:
            for number in range(5):
                self.assert_answer(False, is_certificate, start, goal, wrong, number)
        self.assert_answer(True, is_certificate, start, start, [], 0)
        self.assert_answer(False, is_certificate, start, start, [], 1)
        self.assert_answer(False, is_certificate, start, start, [empty], 0)

    def test_wrong_parts(self):
        start, goal, paper = self.both()
        self.assert_answer(True, is_certificate, start, goal, paper, 3)
        for changed in wrong_things(paper):
            self.assert_same(is_certificate(start, goal, changed, 3), self.is_right(start, goal, changed, 3))
        for part in WEIRD:
            self.assert_answer(False, is_certificate, start, start, [part], 0)

    def is_right(self, start, goal, paper, number):
        """The words of the entry; splits and bounds are tested with the webs."""
        for row in paper:
            if not isinstance(row, tuple) or [type(part) for part in row] != [int, list, list]:
                return False
            if {type(part) for part in row[1]} - {list} or {type(part) for part in row[2]} - {int}:
                return False
        if [row[0] for row in paper] != moving_weights(start, goal):
            return False
        webs = [web_of(start, goal, row[0]) for row in paper]
        for web, (_, circuits, table) in zip(webs, paper):
            if not web.is_split(circuits) or not web.is_bound(table, len(circuits)):
                return False
        return number == sum(len(web) - len(row[1]) for web, row in zip(webs, paper))

    def test_lists_and_tuples_in_each_others_place(self):
        start, goal, paper = self.both()
        (light, (circuit,), table), heavy = paper
        for row in [
            [light, [circuit], table], (light, ([circuit][0],), table), (light, (circuit,), table),
            (light, [tuple(circuit)], table), (light, [circuit], tuple(table)),
        ]:
            self.assert_answer(False, is_certificate, start, goal, [row, heavy], 3)

    def test_answers_may_be_changed(self):
        start, goal, paper = self.both()
        for _, circuits, table in paper:
            circuits[0].clear()
            circuits.clear()
            table.clear()
        again = certificate(start, goal)
        self.assert_answer(True, is_certificate, start, goal, again, 3)


class AllTogether(Case):
    def test_all_pairs_of_a_class_with_levers(self):
        world = parse_world(slow.CLASSES[4])
        rows = sorted(slow.distances(world.yard, world.row))
        for first, second in itertools.product(rows, repeat=2):
            start, goal = World.from_row(world.yard, first), World.from_row(world.yard, second)
            self.assert_same(moving_weights(start, goal), [1] if first != second else [])
            arrows = [(box, start.holder(box), goal.holder(box)) for box in moving(start, goal)]
            self.assertTrue(web_of(start, goal, 1) == Web(arrows))


if __name__ == "__main__":
    unittest.main()
