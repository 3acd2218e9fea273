"""nestweigh/lengths.py: points [2], [3], [4], [42] and [43]."""

import unittest

from nestweigh.deeds import exchange, possible_deeds
from nestweigh.errors import BadNumber, NotComing, OtherYard, TooMany
from nestweigh.fewest import fewest
from nestweigh.histories import judged
from nestweigh.lengths import can_take, companions, history_of_length, lengths, levers, next_length
from nestweigh.passage import bar, is_history
from nestweigh.texts import parse_world
from nestweigh.worlds import World
from nestweigh.yards import Yard
from tests import slow
from tests.support import Case

SHOWN = "shelf a\nshelf b\nbox k 3 in a\nbox m 2 in b\nbox n 1 in m\nbox t 1 in a"
ONLY = "shelf a\nshelf b\nbox k 1 in a\nbox l 1 in a\nbox m 2 in b"
LEVER = "shelf a\nshelf b\nshelf c\nbox k 1 in a\nbox l 1 in b\nbox m 1 in c\nbox n 1 in c\nbox o 1 in a nailed"
POOLS = "shelf a\nshelf b\nbox e 1 in a\nbox f 1 in b\nbox g 2 in a\nbox h 2 in a\nbox i 2 in b"
HUGE = 10**3998
NO_NUMBERS = [-1, -HUGE, True, False, None, "1", "", "x"]
NAMES = [f"b{number:02}" for number in range(12)]


def world_of(text):
    return parse_world(text)


def placed(world, **places):
    """The world in which these boxes have these holders."""
    return World(world.yard, {**world.table(), **places})


def seven():
    """Two worlds with seven moving boxes of one weight."""
    yard = Yard(["s", "t", "u"], {name: 1 for name in NAMES})
    start = World.from_row(yard, "stustutsssss")
    return start, World.from_row(yard, "tustutssssss")


class LengthsCase(Case):
    def assert_lengths(self, shape, least, start, goal):
        self.assert_answer((shape, least), lengths, start, goal)
        right = [number for number in range(61) if self.is_possible(shape, number - least)]
        for number in range(61):
            self.assert_same(can_take(start, goal, number), number in right)
            after = [other for other in right if other >= number]
            if after or shape == "only":
                self.assert_same(next_length(start, goal, number), after[0] if after else None)
        for number in list(range(13)) + [59, 60]:
            deeds = history_of_length(start, goal, number)
            self.assert_answer(deeds, history_of_length, start, goal, number)
            self.assert_same(deeds is None, number not in right)
            if deeds is not None:
                self.assert_same((type(deeds), len(deeds)), (list, number))
                self.assert_same(deeds, [tuple(sorted(deed)) for deed in deeds])
                self.assertTrue(is_history(start, goal, deeds))

    def is_possible(self, shape, more):
        """The numbers of [43], counted from the fewest deeds on."""
        return {
            "only": more == 0, "steps": more >= 0 and more % 2 == 0, "all": more >= 0, "gap": more == 0 or more >= 2,
        }[shape]


class Examples(Case):
    def test_of_the_document(self):
        start = parse_world(SHOWN)
        self.assert_same(lengths(start, exchange(start, "k", "m")), ("steps", 1))


class Levers(Case):
    """[42]"""

    def test_two_boxes_of_a_pool_in_one_of_several_holders(self):
        self.assert_answer([(1, "c")], levers, world_of(LEVER))
        self.assert_answer([(2, "a")], levers, world_of(POOLS))

    def test_no_lever(self):
        for text in (SHOWN, ONLY, "shelf a\nbox b 1 in a", "shelf a sealed\nbox b 1 in a\nbox c 1 in a"):
            self.assert_answer([], levers, world_of(text))

    def test_fixed_boxes_do_not_count(self):
        world = world_of("shelf a\nshelf b sealed\nbox k 1 in a\nbox l 1 in a\nbox m 1 in b\nbox n 1 in b")
        self.assert_answer([], levers, world)
        world = world_of("shelf a\nshelf b\nbox k 1 in a\nbox l 1 in a nailed\nbox m 1 in b")
        self.assert_answer([], levers, world)

    def test_several_ascending(self):
        yard = Yard(["s", "t"], {name: 12 if at < 4 else 8 for at, name in enumerate(NAMES[:9])})
        world = World.from_row(yard, "tstststst")
        self.assert_answer([(8, "s"), (8, "t"), (12, "s"), (12, "t")], levers, world)

    def test_against_the_words_of_the_point(self):
        for text in slow.CLASSES:
            world = world_of(text)
            yard, row = world.yard, world.row
            full, table = slow.weights(yard, row), world.table()
            free = [box for box in table if slow.is_free(yard, row, box)]
            wanted = {
                (full[first], table[first]) for first in free for second in free for other in free
                if full[first] == full[second] == full[other] and first != second
                and table[first] == table[second] != table[other]
            }
            self.assert_same(levers(world), sorted(wanted))


class Companions(Case):
    """[42]"""

    def test_beside_a_box_that_stays(self):
        self.assert_answer(["m"], companions, world_of(LEVER), placed(world_of(LEVER), m="a", k="c"))
        self.assert_answer(["g"], companions, world_of(POOLS), placed(world_of(POOLS), g="b", i="a"))

    def test_if_both_move_both_are_named(self):
        goal = placed(world_of(LEVER), m="a", k="c", n="b", l="c")
        self.assert_answer(["m", "n"], companions, world_of(LEVER), goal)

    def test_no_companion(self):
        self.assert_answer([], companions, world_of(LEVER), world_of(LEVER))
        # o is nailed, e is of another weight than what lies beside it.
        self.assert_answer([], companions, world_of(LEVER), placed(world_of(LEVER), k="b", l="a"))
        self.assert_answer([], companions, world_of(POOLS), placed(world_of(POOLS), e="b", f="a"))

    def test_it_lies_beside_in_the_start(self):
        start = placed(world_of(LEVER), k="b", l="a")
        self.assert_answer(["n"], companions, start, placed(start, n="b", k="c"))
        self.assert_answer(["m"], companions, start, placed(start, m="b", k="c"))

    def test_webs_of_any_size(self):
        start, goal = seven()
        self.assert_answer(NAMES[:7], companions, start, goal)


class Shapes(LengthsCase):
    """[43]"""

    def test_only(self):
        self.assert_lengths("only", 0, world_of(ONLY), world_of(ONLY))
        self.assert_answer([], history_of_length, world_of(ONLY), world_of(ONLY), 0)
        self.assert_answer(None, next_length, world_of(ONLY), world_of(ONLY), 1)
        self.assert_answer(None, next_length, world_of(ONLY), world_of(ONLY), HUGE)
        self.assert_answer(0, next_length, world_of(ONLY), world_of(ONLY), 0)

    def test_steps(self):
        start = world_of(SHOWN)
        goal = exchange(start, "k", "m")
        self.assert_lengths("steps", 0, start, start)
        self.assert_lengths("steps", 1, start, goal)
        self.assert_lengths("steps", 2, start, exchange(goal, "n", "t"))

    def test_all(self):
        start = world_of(LEVER)
        self.assert_lengths("all", 1, start, placed(start, m="a", k="c"))
        self.assert_lengths("all", 2, start, placed(start, m="a", k="c", n="b", l="c"))
        self.assert_lengths("all", 2, start, placed(start, k="b", l="c", n="a"))
        start = world_of(POOLS)
        self.assert_lengths("all", 2, start, placed(start, g="b", i="a", e="b", f="a"))

    def test_gap(self):
        self.assert_lengths("gap", 0, world_of(LEVER), world_of(LEVER))
        self.assert_lengths("gap", 1, world_of(LEVER), placed(world_of(LEVER), k="b", l="a"))
        self.assert_lengths("gap", 1, world_of(POOLS), placed(world_of(POOLS), e="b", f="a"))

    def test_both_of_two_companions_go_the_same_way(self):
        world = world_of("shelf a\nshelf b\nbox k 1 in a\nbox l 1 in a\nbox m 1 in b\nbox n 1 in b")
        self.assert_lengths("all", 2, world, placed(world, k="b", l="b", m="a", n="a"))

    def test_six_arrows(self):
        yard = Yard(["s", "t", "u"], {name: 1 for name in NAMES})
        start = World.from_row(yard, "stustustusts")
        self.assert_lengths("all", 4, start, World.from_row(yard, "tustusstusts"))
        self.assert_lengths("all", 3, start, World.from_row(yard, "tssuutstusts"))

    def test_numbers_of_any_size(self):
        start = world_of(SHOWN)
        goal = exchange(start, "k", "m")
        self.assert_answer(True, can_take, start, goal, HUGE + 1)
        self.assert_answer(False, can_take, start, goal, HUGE)
        self.assert_answer(HUGE + 1, next_length, start, goal, HUGE)
        self.assert_answer(HUGE + 1, next_length, start, goal, HUGE + 1)
        self.assert_answer(HUGE, next_length, world_of(LEVER), world_of(LEVER), HUGE)
        self.assert_answer(True, can_take, world_of(LEVER), world_of(LEVER), HUGE)
        self.assert_answer(False, can_take, world_of(ONLY), world_of(ONLY), HUGE)

    def test_sixty_deeds(self):
        for number in (59, 60):
            deeds = history_of_length(world_of(LEVER), world_of(LEVER), number)
            self.assert_same((len(deeds), judged(world_of(LEVER), deeds)), (number, None))


class Errors(Case):
    def test_other_yards_go_first(self):
        start, other = world_of(SHOWN), world_of(SHOWN.replace("k 3", "k 4"))
        self.assert_error(OtherYard, {}, companions, start, other)
        self.assert_error(OtherYard, {}, lengths, start, other)
        for call in (can_take, next_length, history_of_length):
            for number in NO_NUMBERS + [0, 61]:
                self.assert_error(OtherYard, {}, call, start, other, number)

    def test_numbers_that_are_not_allowed(self):
        start = world_of(SHOWN)
        for call in (can_take, next_length, history_of_length):
            for number in NO_NUMBERS:
                self.assert_error(BadNumber, {"number": number}, call, start, start, number)
        for number in (61, 62, HUGE):
            self.assert_error(BadNumber, {"number": number}, history_of_length, start, start, number)

    def test_numbers_go_before_not_coming_and_too_many(self):
        start, barred = world_of(SHOWN), placed(world_of(SHOWN), t="n")
        for pair in [(start, barred), seven()]:
            for call in (can_take, next_length, history_of_length):
                self.assert_error(BadNumber, {"number": None}, call, *pair, None)
                self.assert_error(BadNumber, {"number": -1}, call, *pair, -1)
            self.assert_error(BadNumber, {"number": 61}, history_of_length, *pair, 61)

    def test_a_goal_that_does_not_come(self):
        start, barred = world_of(SHOWN), placed(world_of(SHOWN), t="n")
        paper = {"bar": bar(start, barred)}
        self.assert_error(NotComing, paper, companions, start, barred)
        self.assert_error(NotComing, paper, lengths, start, barred)
        for call in (can_take, next_length, history_of_length):
            for number in (0, 1, 60):
                self.assert_error(NotComing, paper, call, start, barred, number)

    def test_not_coming_goes_before_too_many(self):
        start, goal = seven()
        barred = placed(goal, b11="t")
        self.assert_error(NotComing, {"bar": bar(start, barred)}, lengths, start, barred)
        self.assert_error(NotComing, {"bar": bar(start, barred)}, can_take, start, barred, 3)

    def test_more_than_six_arrows(self):
        self.assert_error(TooMany, {"many": 7, "limit": 6}, lengths, *seven())
        for call in (can_take, next_length, history_of_length):
            for number in (0, 5, 60):
                self.assert_error(TooMany, {"many": 7, "limit": 6}, call, *seven(), number)


class AllTogether(LengthsCase):
    """Against the worlds that just so many deeds lead to, trying every deed."""

    def test_small_classes(self):
        shapes = set()
        for text in slow.CLASSES:
            world = world_of(text)
            for row in sorted(slow.distances(world.yard, world.row))[::3]:
                shapes |= self.check(World.from_row(world.yard, row))
        self.assertEqual(shapes, {"only", "steps", "all", "gap"})

    def check(self, start):
        yard = start.yard
        reached = slow.rows_after(yard, start.row, 8)
        shapes = set()
        for row in slow.distances(yard, start.row):
            goal = World.from_row(yard, row)
            shape, least = lengths(start, goal)
            shapes.add(shape)
            self.assert_same(least, fewest(start, goal))
            for number in range(9):
                self.assert_same(can_take(start, goal, number), row in reached[number])
                deeds = history_of_length(start, goal, number)
                self.assert_same(deeds is not None, row in reached[number])
                if deeds is not None:
                    self.assert_same((len(deeds), is_history(start, goal, deeds)), (number, True))
                after = [other for other in range(number, 9) if row in reached[other]]
                if after:
                    self.assert_same(next_length(start, goal, number), after[0])
            self.assert_same(shape == "only", not possible_deeds(start))
        return shapes


if __name__ == "__main__":
    unittest.main()
