"""nestweigh/histories.py: points [3], [4], [25], [26], [27] and [34]."""

import itertools
import unittest

from nestweigh.deeds import exchange, possible_deeds, why_refused
from nestweigh.errors import BadNumber, Broken, OtherYard, Unknown
from nestweigh.histories import (
    cut,
    joined,
    judged,
    moving,
    reduced,
    replay,
    reversed_deeds,
    trail,
    walk,
    without_loops,
    worlds_along,
)
from nestweigh.texts import parse_world
from nestweigh.worlds import World
from tests import slow
from tests.support import Case

SHOWN = "shelf a\nshelf b\nbox k 3 in a\nbox m 2 in b\nbox n 1 in m\nbox t 1 in a"
# Six boxes of weight 1 on three shelves, a seventh one nailed, an eighth one under a seal.
WIDE = (
    "shelf a\nshelf b\nshelf c\nshelf d sealed\nbox e 1 in a\nbox f 1 in a\nbox g 1 in b\nbox h 1 in b\n"
    "box i 1 in c\nbox j 1 in c\nbox n 1 in a nailed\nbox s 1 in d\nbox w 5 in a"
)
NAMES_NOT_LOOKED_UP = [("y", "x"), ("", "no name"), ("a", "a"), ("Z", "A")]
REFUSED = [
    (("x", "e"), ("unknown", "x")),
    (("e", "a"), ("unknown", "a")),
    (("e", "e"), ("same", "e")),
    (("w", "e"), ("unlike", "w", "e", 5, 1)),
    (("n", "g"), ("nailed", "n")),
    (("g", "s"), ("sealed", "d")),
    (("f", "e"), ("idle", "a")),
]


def shown():
    return parse_world(SHOWN)


def wide():
    return parse_world(WIDE)


def sorted_pairs(deeds):
    return [tuple(sorted(deed)) for deed in deeds]


def histories_of(world, most):
    """All valid histories from the world of at most so many deeds, the names of some the other way round."""
    found = [[]]
    for deeds in found:
        if len(deeds) < most:
            here = replay(world, deeds)
            for at, (first, second) in enumerate(possible_deeds(here)):
                found.append(deeds + [(first, second) if at % 2 else (second, first)])
    return found


class Replays(Case):
    """[25]"""

    def test_the_empty_history(self):
        for deeds in ([], ()):
            self.assert_answer(shown(), replay, shown(), deeds)
            self.assert_answer(None, judged, shown(), deeds)
            self.assert_answer([shown()], worlds_along, shown(), deeds)
            self.assert_same(list(walk(shown(), deeds)), [])

    def test_deeds_one_after_the_other(self):
        deeds = [("m", "k"), ("t", "n"), ("k", "m")]
        middle = [exchange(shown(), "k", "m")]
        middle.append(exchange(middle[0], "n", "t"))
        middle.append(exchange(middle[1], "k", "m"))
        for given in (deeds, tuple(deeds)):
            self.assert_answer(middle[2], replay, shown(), given)
            self.assert_answer(None, judged, shown(), given)
            self.assert_answer([shown()] + middle, worlds_along, shown(), given)
            self.assert_same(list(walk(shown(), given)), middle)

    def test_a_deed_that_only_the_ones_before_make_possible(self):
        world = parse_world("shelf a\nshelf b\nbox h 1 in a\nbox i 1 in a\nbox j 1 in b")
        self.assert_same(why_refused(world, "h", "i"), ("idle", "a"))
        self.assert_answer(None, judged, world, [("i", "j"), ("h", "i")])
        self.assert_answer((0, ("idle", "a")), judged, world, [("h", "i"), ("i", "j")])

    def test_five_hundred_deeds(self):
        deeds = [("g", "e"), ("e", "i")] * 250
        wanted = wide()
        for first, second in deeds:
            wanted = exchange(wanted, first, second)
        self.assertTrue(replay(wide(), deeds) == wanted)
        self.assert_same(judged(wide(), deeds), None)
        self.assert_same(judged(wide(), deeds[:499] + [("e", "e")]), (499, ("same", "e")))
        self.assert_same(len(worlds_along(wide(), deeds)), 501)

    def test_what_is_refused(self):
        before = [("e", "g"), ("e", "h")]
        for deed, reason in REFUSED:
            self.assert_answer((0, reason), judged, wide(), [deed])
            for call in (replay, worlds_along, without_loops):
                self.assert_error(Broken, {"at": 0, "reason": reason}, call, wide(), [deed])
        for deed, reason in [(("x", "e"), ("unknown", "x")), (("n", "g"), ("nailed", "n"))]:
            deeds = [("g", "e"), ("i", "h"), deed, ("y", "y")]
            self.assert_answer((2, reason), judged, wide(), deeds)
            for call in (replay, worlds_along, without_loops):
                self.assert_error(Broken, {"at": 2, "reason": reason}, call, wide(), deeds)
        self.assert_answer((1, ("idle", "b")), judged, wide(), before)

    def test_only_the_first_refused_deed_is_told(self):
        deeds = [("e", "g"), ("g", "f"), ("x", "y"), ("e", "i")]
        self.assert_answer((1, ("idle", "a")), judged, wide(), deeds)
        self.assert_error(Broken, {"at": 1, "reason": ("idle", "a")}, replay, wide(), deeds)


class Walks(Case):
    def test_a_generator_that_raises_late(self):
        going = walk(wide(), [("e", "g"), ("h", "i"), ("n", "g"), ("f", "g")])
        self.assertTrue(next(going) == exchange(wide(), "e", "g"))
        self.assertTrue(next(going) == exchange(exchange(wide(), "e", "g"), "h", "i"))
        with self.assertRaises(Broken) as caught:
            next(going)
        self.assert_same((caught.exception.at, caught.exception.reason), (2, ("nailed", "n")))

    def test_nothing_is_raised_before_the_first_item_is_asked_for(self):
        going = walk(wide(), [("x", "y")])
        with self.assertRaises(Broken):
            next(going)

    def test_each_call_begins_anew(self):
        deeds = [("e", "g"), ("e", "g")]
        for _ in range(2):
            self.assert_same([world.row for world in walk(wide(), deeds)], [
                exchange(wide(), "e", "g").row, wide().row,
            ])


class Turned(Case):
    def test_reversed_deeds(self):
        self.assert_answer([], reversed_deeds, ())
        self.assert_answer([("n", "t"), ("k", "m")], reversed_deeds, [("m", "k"), ("n", "t")])
        self.assert_answer(
            [("A", "Z"), ("a", "a"), ("", "no name"), ("x", "y")], reversed_deeds, NAMES_NOT_LOOKED_UP
        )

    def test_they_lead_back(self):
        for deeds in histories_of(wide(), 2)[::7]:
            self.assertTrue(replay(replay(wide(), deeds), reversed_deeds(deeds)) == wide())


class Reduced(Case):
    """[26]"""

    def test_nothing_to_remove(self):
        self.assert_answer([], reduced, [])
        self.assert_answer([("k", "m")], reduced, (("m", "k"),))
        self.assert_answer([("a", "b"), ("a", "c"), ("a", "b")], reduced, [("a", "b"), ("c", "a"), ("b", "a")])

    def test_a_deed_done_twice(self):
        self.assert_answer([], reduced, [("k", "m"), ("m", "k")])
        self.assert_answer([("k", "m")], reduced, [("k", "m"), ("m", "k"), ("k", "m")])
        self.assert_answer([], reduced, [("k", "m")] * 500)
        self.assert_answer([("k", "m")], reduced, [("k", "m")] * 499)

    def test_pairs_within_pairs(self):
        self.assert_answer([], reduced, [("a", "b"), ("c", "d"), ("d", "c"), ("b", "a")])
        self.assert_answer([("e", "f")], reduced, [("e", "f"), ("a", "b"), ("c", "d"), ("c", "d"), ("a", "b")])
        self.assert_answer([("a", "b"), ("c", "d")], reduced, [("a", "b"), ("c", "d"), ("e", "e"), ("e", "e")])

    def test_names_are_not_looked_up(self):
        self.assert_answer(
            [("x", "y"), ("", "no name"), ("a", "a"), ("A", "Z")], reduced, NAMES_NOT_LOOKED_UP
        )
        self.assert_answer([], reduced, [("a", "a"), ("a", "a")])

    def test_loops_of_worlds_are_kept(self):
        deeds = [("f", "g"), ("e", "f"), ("e", "g")]
        self.assertTrue(replay(wide(), deeds) == wide())
        self.assert_answer(deeds, reduced, deeds)


class Loops(Case):
    """[27]"""

    def test_nothing_to_cut(self):
        self.assert_answer([], without_loops, wide(), [])
        self.assert_answer([("e", "g"), ("h", "i")], without_loops, wide(), (("g", "e"), ("i", "h")))

    def test_a_deed_done_twice(self):
        self.assert_answer([], without_loops, wide(), [("e", "g"), ("g", "e")])
        self.assert_answer([("e", "g")], without_loops, wide(), [("g", "e")] * 3)
        self.assert_answer([], without_loops, wide(), [("g", "e")] * 500)

    def test_a_loop_of_three_worlds(self):
        loop = [("f", "g"), ("e", "f"), ("e", "g")]
        self.assert_answer([], without_loops, wide(), loop)
        self.assert_answer([("h", "i")], without_loops, wide(), [("i", "h")] + loop)
        self.assert_answer([("h", "i")], without_loops, wide(), loop + [("i", "h")])

    def test_only_what_comes_after_the_kept_world_is_removed(self):
        deeds = [("e", "g"), ("h", "i"), ("f", "j"), ("j", "f"), ("i", "h")]
        self.assert_answer([("e", "g")], without_loops, wide(), deeds)
        self.assert_answer([("e", "g"), ("f", "j")], without_loops, wide(), deeds + [("j", "f")])

    def test_a_world_that_was_removed_may_come_again(self):
        deeds = [("e", "g"), ("e", "g"), ("e", "g"), ("h", "i")]
        self.assert_answer([("e", "g"), ("h", "i")], without_loops, wide(), deeds)

    def test_a_refused_deed_in_or_behind_a_loop(self):
        inside = [("e", "g"), ("e", "f"), ("x", "f"), ("e", "f"), ("e", "g")]
        self.assert_error(Broken, {"at": 1, "reason": ("idle", "b")}, without_loops, wide(), [("e", "g"), ("e", "h")])
        self.assert_error(Broken, {"at": 2, "reason": ("unknown", "x")}, without_loops, wide(), inside)
        behind = [("e", "g"), ("e", "g"), ("w", "e")]
        self.assert_error(
            Broken, {"at": 2, "reason": ("unlike", "w", "e", 5, 1)}, without_loops, wide(), behind
        )

    def test_against_the_words_of_the_point(self):
        world = parse_world("shelf a\nshelf b\nshelf c\nbox e 1 in a\nbox f 1 in a\nbox g 1 in b\nbox h 1 in c")
        for deeds in histories_of(world, 4)[::3]:
            along = worlds_along(world, deeds)
            kept_worlds, kept = [along[0]], []
            for deed, found in zip(sorted_pairs(deeds), along[1:]):
                while found in kept_worlds and kept_worlds[-1] != found:
                    kept_worlds.pop()
                    kept.pop()
                if kept_worlds[-1] != found:
                    kept_worlds.append(found)
                    kept.append(deed)
            self.assert_same(without_loops(world, deeds), kept)
            self.assertTrue(replay(world, kept) == along[-1])


class Joined(Case):
    def test_one_after_the_other(self):
        self.assert_answer([], joined, wide(), [], ())
        self.assert_answer([("e", "g")], joined, wide(), (), [("g", "e")])
        self.assert_answer([("e", "g")], joined, wide(), [("g", "e")], ())
        self.assert_answer(
            [("e", "g"), ("f", "i"), ("e", "i")], joined, wide(), [("g", "e"), ("i", "f")], (("i", "e"),)
        )

    def test_nothing_is_cut(self):
        self.assert_answer([("e", "g"), ("e", "g")], joined, wide(), [("e", "g")], [("g", "e")])

    def test_a_thousand_deeds(self):
        deeds = [("g", "e")] * 500
        self.assert_same(joined(wide(), deeds, deeds), [("e", "g")] * 1000)

    def test_the_index_counts_through_both(self):
        first = [("e", "g"), ("h", "i")]
        for at, deed in enumerate([("x", "e"), ("g", "n")]):
            reason = [("unknown", "x"), ("nailed", "n")][at]
            self.assert_error(
                Broken, {"at": 2, "reason": reason}, joined, wide(), first, [deed, ("y", "y")]
            )
            self.assert_error(Broken, {"at": 1, "reason": reason}, joined, wide(), [first[0], deed], first)
        self.assert_error(Broken, {"at": 3, "reason": ("same", "e")}, joined, wide(), first, [("e", "j"), ("e", "e")])


class Cuts(Case):
    def test_all_places(self):
        deeds = [("b", "a"), ("c", "d"), ("", "Z")]
        wanted = [("a", "b"), ("c", "d"), ("", "Z")]
        for at in range(4):
            self.assert_answer((wanted[:at], wanted[at:]), cut, deeds, at)
            self.assert_answer((wanted[:at], wanted[at:]), cut, tuple(deeds), at)
        self.assert_answer(([], []), cut, [], 0)

    def test_the_lists_are_new(self):
        deeds = [("a", "b")]
        for part in cut(deeds, 1):
            part.append(("x", "y"))
        self.assert_same(deeds, [("a", "b")])
        self.assert_same(cut(deeds, 0), ([], [("a", "b")]))

    def test_numbers_that_are_not_allowed(self):
        for at in [-1, 3, 10**30, -10**30, True, False, None, "1", "", "a"]:
            self.assert_error(BadNumber, {"number": at}, cut, [("a", "b"), ("a", "c")], at)
        self.assert_error(BadNumber, {"number": 1}, cut, [], 1)


class Trails(Case):
    def test_the_holders_of_a_box(self):
        self.assert_answer(["a", "b", "b", "c"], trail, wide(), [("e", "g"), ("h", "i"), ("j", "e")], "e")
        self.assert_answer(["a"], trail, wide(), [], "e")
        self.assert_answer(["a", "b", "a"], trail, wide(), (("e", "g"), ("g", "e")), "e")
        self.assert_answer(["b", "a", "b"], trail, wide(), [("e", "g"), ("g", "e")], "g")
        self.assert_answer(["a"] * 3, trail, wide(), [("e", "g"), ("g", "e")], "n")
        self.assert_answer(["m", "m"], trail, shown(), [("k", "m")], "n")

    def test_unknown_goes_before_broken(self):
        for name in ["a", "x", "", "E"]:
            self.assert_error(Unknown, {"name": name}, trail, wide(), [], name)
            self.assert_error(Unknown, {"name": name}, trail, wide(), [("y", "y")], name)
        self.assert_error(Broken, {"at": 1, "reason": ("same", "e")}, trail, wide(), [("e", "g"), ("e", "e")], "e")


class Moving(Case):
    """[34]"""

    def test_boxes_whose_holders_differ(self):
        self.assert_answer([], moving, wide(), wide())
        self.assert_answer(["e", "g"], moving, wide(), exchange(wide(), "g", "e"))
        self.assert_answer(["k", "m"], moving, shown(), exchange(shown(), "k", "m"))
        self.assert_answer(["w"], moving, wide(), wide().moved("w", "e"))

    def test_also_where_the_goal_does_not_come(self):
        self.assert_answer(["n", "s"], moving, wide(), wide().moved("n", "b").moved("s", "b"))

    def test_other_yards(self):
        for text in [
            WIDE.replace("box w 5", "box w 6"), WIDE.replace(" nailed", ""), WIDE.replace(" sealed", ""),
            WIDE.replace("box w", "box v"), WIDE.replace("shelf d", "shelf dd").replace("in d", "in dd"), SHOWN,
        ]:
            self.assert_error(OtherYard, {}, moving, wide(), parse_world(text))
            self.assert_error(OtherYard, {}, moving, parse_world(text), wide())


class AllTogether(Case):
    def test_small_yards(self):
        for yard in slow.small_yards():
            for row in slow.all_rows(yard)[::17]:
                world = World.from_row(yard, row)
                for first in itertools.permutations(yard.boxes, 2):
                    for second in itertools.combinations(yard.boxes, 2):
                        self.check(yard, world, [first, second])

    def check(self, yard, world, deeds):
        rows, fault = [world.row], None
        for at, deed in enumerate(deeds):
            after = dict(slow.deeds(yard, rows[-1])).get(tuple(sorted(deed)))
            if after is None:
                fault = (at, why_refused(World.from_row(yard, rows[-1]), *deed))
                break
            rows.append(after)
        self.assert_same(judged(world, deeds), fault)
        if fault is None:
            self.assert_same([found.row for found in worlds_along(world, deeds)], rows)
            self.assert_same(replay(world, deeds).row, rows[-1])
            self.assert_same(trail(world, deeds, "k"), [row[0] for row in rows])


if __name__ == "__main__":
    unittest.main()
