"""nestweigh/classes.py: points [2], [3], [4], [32], [44] and [45]."""

import unittest
from math import factorial, prod

from nestweigh.classes import (
    between,
    count,
    distances,
    factors,
    farthest,
    following,
    least,
    listed,
    neighbours,
    rank,
    world_at,
)
from nestweigh.errors import BadNumber, NotComing, OtherYard, TooMany
from nestweigh.fewest import fewest
from nestweigh.passage import bar, comes
from nestweigh.texts import parse_world
from nestweigh.worlds import World
from nestweigh.yards import Yard
from tests import slow
from tests.support import Case

SHOWN = "shelf a\nshelf b\nbox k 3 in a\nbox m 2 in b\nbox n 1 in m\nbox t 1 in a"
ALONE = "shelf a\nshelf b sealed\nbox k 1 in a\nbox l 1 in b\nbox m 2 in a nailed"
NAMES = [f"b{number:02}" for number in range(12)]
NO_NUMBERS = [-1, -10**3999, 10**3999, True, False, None, "0", "", "x"]


def shown():
    return parse_world(SHOWN)


def spread(*counts):
    """A world of equal boxes, as many on each shelf as told, the first boxes on the last shelf."""
    row = "".join("stuv"[at] * many for at, many in enumerate(counts))[::-1]
    yard = Yard(list("stuv"[:len(counts)]), {name: 1 for name in NAMES[:len(row)]})
    return World.from_row(yard, row)


def rows_of_pools(*rows):
    """A world of several pools, whose boxes lie on the shelves of the rows."""
    boxes = {f"{'pqrx'[at]}{number:02}": 1 + at for at, row in enumerate(rows) for number in range(len(row))}
    return World.from_row(Yard(sorted(set("".join(rows))), boxes), "".join(rows))


def pools(*counts):
    """A world of several pools, each with so many boxes on one shelf and one box on the other."""
    return rows_of_pools(*["s" * many + "t" for many in counts])


def wide():
    """Twelve boxes that all weigh the same, three on each shelf: 369600 worlds."""
    return spread(3, 3, 3, 3)


def nested():
    """Twelve boxes of six weights in one another."""
    boxes = {name: 1 for name in NAMES}
    yard = Yard(["s", "t"], boxes)
    table = dict(zip(NAMES, ["s"] + NAMES[:5] + ["t"] + NAMES[6:11]))
    return World(yard, table)


class Counts(Case):
    """[44]: factors and count"""

    def test_one_world(self):
        for text in (ALONE, "shelf a\nbox b 1 in a", "shelf a sealed\nbox b 1 in a\nbox c 1 in a"):
            world = parse_world(text)
            self.assert_answer(1, count, world)
        self.assert_answer([], factors, parse_world("shelf a sealed\nbox b 1 in a\nbox c 1 in a"))
        self.assert_answer([(1, 1)], factors, parse_world(ALONE))

    def test_several_weights(self):
        self.assert_answer([(1, 2), (3, 2)], factors, shown())
        self.assert_answer(4, count, shown())
        self.assert_answer([(1, 4), (2, 3), (3, 2)], factors, pools(3, 2, 1))
        self.assert_answer(24, count, pools(3, 2, 1))

    def test_great_classes(self):
        self.assert_answer([(1, 369600)], factors, wide())
        self.assert_answer(369600, count, wide())
        self.assert_answer([(number, 2) for number in range(1, 7)], factors, nested())
        self.assert_answer(64, count, nested())
        yard = Yard(["s", "t"], {name: 10**9 if at < 2 else 1 for at, name in enumerate(NAMES)})
        world = World(yard, dict(zip(NAMES, ["s", "t", "b00", "b01", "s", "t"] + NAMES[4:10])))
        self.assert_same(count(world), prod(ways for _, ways in factors(world)))
        ten = {f"c{number}": 1 for number in range(6)}
        holders = {f"h{number}": 100 for number in range(6)}
        world = World(Yard(["s"], {**ten, **holders}), {
            **{name: f"h{at}" for at, name in enumerate(ten)}, **{name: "s" for name in holders},
        })
        self.assert_answer(factorial(6), count, world)


class Ranks(Case):
    """[44]: rank, world_at, least and following"""

    def test_of_a_small_class(self):
        worlds = [World.from_row(shown().yard, row) for row in [
            ("a", "b", "a", "m"), ("a", "b", "m", "a"), ("b", "a", "a", "m"), ("b", "a", "m", "a"),
        ]]
        for at, world in enumerate(worlds):
            self.assert_answer(at, rank, world)
            for other in worlds:
                self.assert_answer(world, world_at, other, at)
            self.assert_answer(worlds[0], least, world)
            self.assert_answer(worlds[at + 1] if at < 3 else None, following, world)
        self.assert_answer(worlds, listed, shown())

    def test_one_world(self):
        world = parse_world(ALONE)
        self.assert_answer(0, rank, world)
        self.assert_answer(world, world_at, world, 0)
        self.assert_answer(world, least, world)
        self.assert_answer(None, following, world)
        self.assert_answer([world], listed, world)
        self.assert_answer([], neighbours, world)
        self.assert_answer([0], distances, world)
        self.assert_answer(0, farthest, world)

    def test_classes_too_large_to_list(self):
        first = World.from_row(wide().yard, "ssstttuuuvvv")
        last = World.from_row(wide().yard, "vvvuuutttsss")
        for world in (first, last, wide()):
            self.assert_answer(first, least, world)
            self.assert_answer(last, world_at, world, 369599)
        self.assert_answer((0, 369599), lambda: (rank(first), rank(last)))
        self.assert_answer(World.from_row(wide().yard, "ssstttuuvuvv"), following, first)
        self.assert_answer(None, following, last)
        for number in range(0, 369600, 29989):
            world = world_at(wide(), number)
            self.assert_answer(number, rank, world)
            self.assertTrue(comes(world, wide()))
            self.assert_answer(world_at(first, number + 1), following, world)

    def test_ranks_go_by_the_rows(self):
        numbers = list(range(0, 369600, 15013))
        rows = [world_at(wide(), number).row for number in numbers]
        self.assert_same(rows, sorted(rows))
        rows = [world_at(nested(), number).row for number in range(64)]
        self.assert_same(rows, sorted(slow.distances(nested().yard, nested().row)))

    def test_numbers_that_are_not_allowed(self):
        for world, many in [(shown(), 4), (parse_world(ALONE), 1), (wide(), 369600)]:
            for number in NO_NUMBERS + [many, many + 1]:
                self.assert_error(BadNumber, {"number": number}, world_at, world, number)


class Lists(Case):
    def test_all_worlds_ascending(self):
        for world in (pools(4, 2, 3), pools(4, 4, 1), spread(3, 2, 1)):
            self.assert_same([found.row for found in listed(world)], sorted(slow.distances(world.yard, world.row)))

    def test_four_hundred_worlds(self):
        world = rows_of_pools("sssttt", "sssttt")
        self.assert_same(count(world), 400)
        worlds = listed(world)
        self.assert_same([found.row for found in worlds], [world_at(world, number).row for number in range(400)])
        self.assert_same(len({found.row for found in worlds}), 400)

    def test_more_than_four_hundred(self):
        # 401 is a prime number, and no class has between 400 and 420 worlds.
        self.assert_error(TooMany, {"many": 420, "limit": 400}, listed, rows_of_pools("st", "st", "sssstuu"))
        self.assert_error(TooMany, {"many": 462, "limit": 400}, listed, spread(5, 6))
        self.assert_error(TooMany, {"many": 369600, "limit": 400}, listed, wide())

    def test_new_lists(self):
        listed(shown()).clear()
        neighbours(shown()).clear()
        distances(shown()).clear()
        self.assert_same(len(listed(shown())), 4)


class Distances(Case):
    """[45]"""

    def test_neighbours(self):
        wanted = [("a", "b", "a", "m"), ("b", "a", "m", "a")]
        self.assert_answer([World.from_row(shown().yard, row) for row in wanted], neighbours, shown())

    def test_neighbours_in_a_class_of_any_size(self):
        found = [world.row for world in neighbours(wide())]
        self.assert_same(len(found), 6 * 9)
        self.assert_same(found, sorted(found))
        self.assert_same(found, sorted(row for _, row in slow.deeds(wide().yard, wide().row)))

    def test_distances(self):
        self.assert_answer([1, 0, 2, 1], distances, shown())
        self.assert_answer(2, farthest, shown())

    def test_forty_worlds_and_more(self):
        world = pools(4, 3, 1)
        self.assert_same(count(world), 40)
        reached = slow.distances(world.yard, world.row)
        self.assert_answer([reached[row] for row in sorted(reached)], distances, world)
        self.assert_answer(3, farthest, world)
        self.assert_same(len(between(world, world_at(world, 39))), 8)
        # 41 is a prime number greater than 12, so that no class has 41 worlds.
        world = pools(6, 2, 1)
        self.assert_same(count(world), 42)
        for call in (distances, farthest):
            self.assert_error(TooMany, {"many": 42, "limit": 40}, call, world)
        self.assert_error(TooMany, {"many": 42, "limit": 40}, between, world, world)
        self.assert_error(TooMany, {"many": 42, "limit": 40}, between, world, least(world))

    def test_between(self):
        worlds = listed(shown())
        self.assert_answer([worlds[1]], between, worlds[1], worlds[1])
        self.assert_answer([worlds[1], worlds[3]], between, worlds[3], worlds[1])
        self.assert_answer(worlds, between, worlds[3], worlds[0])
        self.assert_answer(worlds, between, worlds[1], worlds[2])

    def test_not_all_worlds_are_between(self):
        world = spread(2, 1)
        worlds = listed(world)
        self.assert_answer([worlds[0], worlds[2]], between, worlds[2], worlds[0])

    def test_errors_of_between(self):
        other = parse_world(SHOWN.replace("k 3", "k 4"))
        self.assert_error(OtherYard, {}, between, shown(), other)
        self.assert_error(OtherYard, {}, between, other, shown())
        barred = shown().moved("t", "n")
        self.assert_error(NotComing, {"bar": bar(shown(), barred)}, between, shown(), barred)
        great = wide().moved("b00", "b01")
        self.assert_error(NotComing, {"bar": bar(wide(), great)}, between, wide(), great)
        self.assert_error(TooMany, {"many": 369600, "limit": 40}, between, wide(), wide())


class AllTogether(Case):
    """Against the worlds that come by trying every deed, and the ways deed by deed."""

    def test_small_classes(self):
        for text in slow.CLASSES:
            world = parse_world(text)
            yard = world.yard
            rows = sorted(slow.distances(yard, world.row))
            worlds = [World.from_row(yard, row) for row in rows]
            self.assert_answer(worlds, listed, world)
            self.assert_answer(len(rows), count, world)
            self.assert_same(prod(ways for _, ways in factors(world)), len(rows))
            for at, here in enumerate(worlds):
                reached = slow.distances(yard, rows[at])
                self.assert_same(rank(here), at)
                self.assert_same(world_at(world, at).row, rows[at])
                self.assert_same(least(here).row, rows[0])
                after = following(here)
                self.assert_same(after.row if after is not None else None, (rows + [None])[at + 1])
                self.assert_same([found.row for found in neighbours(here)], [row for row in rows if reached[row] == 1])
                self.assert_same(distances(here), [reached[row] for row in rows])
                self.assert_same(farthest(here), max(reached.values()))

    def test_ways_between(self):
        for text in slow.CLASSES:
            world = parse_world(text)
            yard = world.yard
            rows = sorted(slow.distances(yard, world.row))[::2]
            for first in rows:
                before = slow.distances(yard, first)
                for second in rows[::2]:
                    after = slow.distances(yard, second)
                    start, goal = World.from_row(yard, first), World.from_row(yard, second)
                    wanted = [row for row in sorted(before) if before[row] + after[row] == before[second]]
                    self.assert_same([found.row for found in between(start, goal)], wanted)
                    self.assert_same(fewest(start, goal), before[second])


if __name__ == "__main__":
    unittest.main()
