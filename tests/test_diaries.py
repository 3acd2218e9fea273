"""nestweigh/diaries.py: points [2], [3], [4], [5] and [62] to [66]."""

import itertools
import random
import unittest

from nestweigh.classes import count, listed
from nestweigh.diaries import (
    Diary,
    cost_table,
    fewest_wrong,
    first_unfit,
    is_cost_table,
    is_story,
    is_wrong_set,
    may_at,
    must_at,
    possible,
    story,
    struck,
    wrong_set,
)
from nestweigh.errors import BadCount, BadNumber, BadWish, NoStory, TooMany, Unknown
from nestweigh.texts import parse_world
from nestweigh.worlds import World
from nestweigh.yards import Yard
from tests import slow
from tests.support import WEIRD, Case, wrong_things

SHOWN = "shelf a\nshelf b\nbox k 3 in a\nbox m 2 in b\nbox n 1 in m\nbox t 1 in a"
ALONE = "shelf a\nshelf b sealed\nbox k 1 in a\nbox l 1 in b\nbox m 2 in a nailed"
SEEN = [(0, "in", "k", "b"), (1, "in", "t", "m"), (2, "within", "n", "b")]
TABLE = [[None, 1, None, None], [1, None, None, 2], [2, 1, 2, 3]]
NAMES = [f"b{number:02}" for number in range(12)]
NO_NUMBERS = [-1, 10**3999, -10**3999, True, False, None, "0", "", "x"]


def shown():
    return parse_world(SHOWN)


def diary(gaps=((1, 1), (0, 1)), seen=tuple(SEEN), text=SHOWN, **more):
    return Diary(parse_world(text), gaps, seen, **more)


def alone(gaps, seen=()):
    """A diary of a class with one world."""
    return Diary(parse_world(ALONE), gaps, seen)


def four_apart(many):
    """Boxes on shelves of their own, of which so many can be exchanged: factorial(many) worlds."""
    yard = Yard(list("stuv"), {name: 1 for name in NAMES[:4]}, nailed=NAMES[many:4])
    return World(yard, dict(zip(NAMES, "stuv")))


class Diaries(Case):
    """[62], [63]: the class Diary"""

    def test_what_it_keeps(self):
        for seen in (SEEN, tuple(SEEN)):
            for gaps in ([(1, 1), (0, 1)], ((1, 1), (0, 1))):
                found = Diary(shown(), gaps, seen)
                self.assert_answer([(1, 1), (0, 1)], found.gaps)
                self.assert_answer(SEEN, found.sightings)
                self.assert_same((found.world, found.moments, found.from_start), (shown(), 3, True))
        self.assert_same(diary(from_start=True).from_start, True)
        self.assert_same(diary(from_start=False).from_start, False)

    def test_sightings_stay_in_their_order(self):
        seen = [(1, "in", "t", "m"), (0, "within", "n", "a"), (1, "in", "t", "m"), (0, "in", "k", "a")]
        self.assert_answer(seen, diary([(0, 3)], seen).sightings)

    def test_no_gaps_and_seven(self):
        self.assert_same((diary([], []).moments, diary([], []).gaps()), (1, []))
        self.assert_same(diary([(0, 0)] * 7, [(7, "in", "k", "a")]).moments, 8)
        for many in (8, 9, 20):
            self.assert_error(BadCount, {"what": "gaps", "many": many}, diary, [(0, 0)] * many, [])

    def test_gaps(self):
        for low in range(4):
            for high in range(low, 4):
                self.assert_same(diary([(low, high)], []).gaps(), [(low, high)])
        for low in NO_NUMBERS + [4]:
            self.assert_error(BadNumber, {"number": low}, diary, [(0, 1), (low, 3), (9, 9)], [])
            self.assert_error(BadNumber, {"number": low}, diary, [(low, None)], [])
        for low, high in [(0, 4), (1, 0), (3, 2), (2, 1), (3, 4)] + [(0, high) for high in NO_NUMBERS]:
            self.assert_error(BadNumber, {"number": high}, diary, [(0, 1), (low, high), (9, 9)], [])

    def test_no_sightings_and_twelve(self):
        self.assert_same(diary([], []).sightings(), [])
        self.assert_same(len(diary([], [(0, "in", "k", "b")] * 12).sightings()), 12)
        for many in (13, 14, 30):
            self.assert_error(BadCount, {"what": "sightings", "many": many}, diary, [], [(0, "in", "k", "b")] * many)

    def test_sightings_of_a_moment_that_is_not(self):
        for moment in NO_NUMBERS + [3, 4]:
            seen = [SEEN[0], (moment, "in", "k", "b"), (0, "in", "k", "k")]
            self.assert_error(BadNumber, {"number": moment}, diary, [(0, 1), (0, 1)], seen)
            self.assert_error(BadNumber, {"number": moment}, diary, [(0, 1), (0, 1)], [(moment, "in", "k", "k")])
        self.assert_error(BadNumber, {"number": 1}, diary, [], [(1, "in", "k", "b")])

    def test_sightings_of_what_is_not_a_wish(self):
        for wish in [
            (), ("in",), ("in", "k"), ("in", "k", "a", "a"), ("on", "k", "a"), ("in", "a", "b"), ("in", "z", "a"),
            ("within", "k", "z"), ("in", "k", "k"), ("In", "k", "a"), ("k", "in", "a"), ("", "", ""),
        ]:
            for at in range(3):
                seen = SEEN[:at] + [(0, *wish), (9, "in", "k", "b")]
                self.assert_error(BadWish, {"at": at}, diary, [(0, 1), (0, 1)], seen)

    def test_the_first_error_is_told(self):
        more = World(Yard(["s", "t"], {name: 1 for name in NAMES[:7]}), dict(zip(NAMES, "ssssttt")))
        self.assert_error(TooMany, {"many": 35, "limit": 24}, Diary, more, [(9, 9)] * 8, [()] * 13)
        self.assert_error(BadCount, {"what": "gaps", "many": 8}, diary, [(9, 9)] * 8, [(9, "in")] * 13)
        self.assert_error(BadNumber, {"number": 9}, diary, [(9, 9)] * 7, [(9, "in")] * 13)
        self.assert_error(BadCount, {"what": "sightings", "many": 13}, diary, [(0, 1)] * 7, [(9, "in")] * 13)

    def test_classes_of_24_worlds_and_more(self):
        self.assert_same(count(four_apart(4)), 24)
        self.assert_same(Diary(four_apart(4), [(3, 3)], []).moments, 2)
        # Two pools of five boxes, one of which lies alone in each.
        yard = Yard(["s", "t"], {name: 1 if at < 5 else 2 for at, name in enumerate(NAMES[:10])})
        self.assert_error(TooMany, {"many": 25, "limit": 24}, Diary, World.from_row(yard, "sssst" * 2), [], [])
        self.assert_error(TooMany, {"many": 25, "limit": 24}, Diary, World.from_row(yard, "sstss" * 2), [(0, 9)], [()])

    def test_later_changes(self):
        gaps, seen = [(1, 1)], [SEEN[0]]
        found = diary(gaps, seen)
        gaps.append((0, 0))
        seen.clear()
        self.assert_same((found.gaps(), found.sightings(), found.moments), ([(1, 1)], [SEEN[0]], 2))
        for name in ("world", "moments", "from_start"):
            with self.assertRaises(AttributeError):
                setattr(found, name, None)


class Struck(Case):
    def test_without_some_sightings(self):
        for indexes, kept in [
            ([], [0, 1, 2]), ([1], [0, 2]), ([2, 0], [1]), ((0, 0, 0), [1, 2]), ([2, 1, 2, 0], []), ((1, 0), [2]),
        ]:
            for start in (True, False):
                wanted = diary(seen=[SEEN[at] for at in kept], from_start=start)
                self.assert_answer(wanted, struck, diary(from_start=start), indexes)

    def test_numbers_that_are_no_indexes(self):
        for at in (-1, 3, -3, 10**3999):
            self.assert_error(BadNumber, {"number": at}, struck, diary(), [0, 2, at, -9])
            self.assert_error(BadNumber, {"number": at}, struck, diary(), (at,))
        self.assert_error(BadNumber, {"number": 0}, struck, diary(seen=[]), [0])


class Stories(Case):
    """[64]: story and is_story"""

    def assert_story(self, given):
        found = story(given)
        self.assert_answer(found, story, given)
        self.assertIs(type(found), list)
        for worlds in (found, tuple(found)):
            self.assert_answer(True, is_story, given, worlds)
        return found

    def test_one_moment(self):
        self.assert_same(self.assert_story(diary([], [])), [shown()])
        self.assert_same(self.assert_story(diary([], [(0, "in", "k", "a")] * 12)), [shown()])
        self.assert_answer(None, story, diary([], [(0, "in", "k", "b")]))
        found = self.assert_story(diary([], [(0, "in", "k", "b"), (0, "within", "n", "a")], from_start=False))
        self.assert_same(found[0].holder("k"), "b")

    def test_several_moments(self):
        seen = [(1, "in", "k", "b"), (2, "in", "t", "m"), (0, "in", "k", "a")]
        found = self.assert_story(diary([(1, 1), (1, 1)], seen))
        self.assert_same([world.row for world in found], [
            ("a", "b", "m", "a"), ("b", "a", "m", "a"), ("b", "a", "a", "m"),
        ])
        self.assert_answer(None, story, diary([(1, 1), (0, 0)], seen))
        self.assert_answer(None, story, diary([(2, 2), (0, 0)], seen[:1] + [(2, "in", "t", "a")]))
        self.assert_story(diary([(3, 3), (0, 3)], seen))
        self.assert_story(diary([(0, 3)] * 7, [(at, "in", "k", "ab"[at % 2]) for at in range(8)]))

    def test_ways_through_other_worlds_and_back(self):
        for low, high, wanted in [(0, 0, True), (1, 1, False), (2, 2, True), (3, 3, False), (1, 2, True), (1, 3, True)]:
            given = diary([(low, high)], [(1, "in", "k", "a"), (1, "in", "n", "m")])
            self.assert_same(story(given) is not None, wanted)
            self.assert_answer(wanted, is_story, given, [shown(), shown()])

    def test_no_story(self):
        self.assert_answer(None, story, diary())
        self.assert_answer(None, story, alone([(1, 1)]))
        self.assert_answer(None, story, alone([(0, 0), (1, 3), (0, 1)]))
        self.assert_same(len(self.assert_story(alone([(0, 3)] * 7))), 8)
        self.assert_answer(None, story, alone([(0, 3)], [(1, "in", "k", "b")]))

    def test_a_beginning_that_is_asked_for_and_one_that_is_not(self):
        seen = [(0, "in", "k", "b")]
        self.assert_answer(None, story, diary([(0, 3)], seen))
        self.assert_story(diary([(0, 3)], seen, from_start=False))
        worlds = listed(shown())
        for first in worlds:
            self.assert_answer(first == shown(), is_story, diary([], []), [first])
            self.assert_answer(True, is_story, diary([], [], from_start=False), [first])

    def test_wrong_sequences(self):
        given = diary([(1, 1), (1, 1)], [(1, "in", "k", "b")])
        worlds = listed(shown())
        right = [shown(), worlds[3], worlds[2]]
        self.assert_answer(True, is_story, given, right)
        self.assert_answer(True, is_story, given, [shown(), worlds[3], shown()])
        other_yard = parse_world(SHOWN.replace("k 3", "k 4"))
        other_class = shown().moved("t", "b")
        for wrong in [
            [], right[:2], right + right[2:], right[::-1], [shown(), worlds[0], worlds[2]], [shown(), worlds[3], worlds[3]],
            [shown(), worlds[2], worlds[3]], [worlds[3], worlds[3], worlds[2]], [other_yard] * 3,
            [shown(), worlds[3], other_yard], [shown(), other_class, shown()], [other_class, worlds[3], worlds[2]],
            [shown(), worlds[3], other_class], [parse_world(ALONE)] * 3, [worlds[0], worlds[3], worlds[2]],
        ]:
            for sequence in (wrong, tuple(wrong)):
                self.assert_answer(False, is_story, given, sequence)


class Possible(Case):
    """possible, may_at and must_at"""

    def test_worlds_of_a_moment(self):
        worlds = listed(shown())
        given = diary([(1, 1), (0, 1)], [(1, "in", "k", "b")])
        self.assert_answer([worlds[1]], possible, given, 0)
        self.assert_answer([worlds[3]], possible, given, 1)
        self.assert_answer([worlds[1], worlds[2], worlds[3]], possible, given, 2)
        # What comes later tells of what was before.
        given = diary([(1, 1), (1, 1)], [(2, "in", "k", "b")], from_start=False)
        self.assert_answer(worlds, possible, given, 0)
        self.assert_answer(worlds, possible, given, 1)
        self.assert_answer(worlds[2:], possible, given, 2)
        given = diary([(0, 1), (0, 0)], [(2, "in", "k", "b"), (2, "in", "n", "m")])
        for moment, wanted in enumerate([[worlds[1]], [worlds[3]], [worlds[3]]]):
            self.assert_answer(wanted, possible, given, moment)

    def test_holders(self):
        given = diary([(1, 1), (0, 1)], [(1, "in", "k", "b")])
        for moment, box, wanted in [
            (0, "k", ["a"]), (1, "k", ["b"]), (2, "k", ["a", "b"]), (2, "n", ["a", "m"]), (1, "n", ["m"]),
        ]:
            self.assert_answer(wanted, may_at, given, moment, box)
            self.assert_answer(wanted[0] if len(wanted) == 1 else None, must_at, given, moment, box)

    def test_no_story(self):
        for given in (diary(), alone([(1, 1)], [])):
            box = given.world.yard.boxes[0]
            self.assert_answer([], possible, given, 0)
            self.assert_answer([], may_at, given, 1, box)
            self.assert_error(NoStory, {}, must_at, given, 1, box)

    def test_errors(self):
        for given in (diary(), diary(seen=[])):
            for moment in NO_NUMBERS + [3, 4]:
                self.assert_error(BadNumber, {"number": moment}, possible, given, moment)
                for box in ("k", "none", "a"):
                    self.assert_error(BadNumber, {"number": moment}, may_at, given, moment, box)
                    self.assert_error(BadNumber, {"number": moment}, must_at, given, moment, box)
            for name in ["a", "b", "z", "", "K", "no name"]:
                self.assert_error(Unknown, {"name": name}, may_at, given, 2, name)
                self.assert_error(Unknown, {"name": name}, must_at, given, 2, name)


class Wrongs(Case):
    """[65]: first_unfit, cost_table, fewest_wrong and wrong_set; is_wrong_set"""

    def test_example(self):
        self.assert_answer(TABLE, cost_table, diary())
        self.assert_answer([0], wrong_set, diary())
        self.assert_answer(0, first_unfit, diary())
        self.assert_answer(1, fewest_wrong, diary())

    def test_a_diary_with_a_story(self):
        given = diary([(0, 3)], [(1, "in", "k", "b")])
        self.assert_answer(None, first_unfit, given)
        self.assert_answer(0, fewest_wrong, given)
        self.assert_answer([], wrong_set, given)
        self.assert_answer([[None, 0, None, None], [1, 1, 0, 0]], cost_table, given)

    def test_no_sightings(self):
        self.assert_answer([[None, 0, None, None]], cost_table, diary([], []))
        self.assert_answer([[0] * 4], cost_table, diary([], [], from_start=False))
        self.assert_answer(None, first_unfit, diary([], []))
        self.assert_answer([], wrong_set, diary([], []))

    def test_no_journey(self):
        for gaps, wanted in [
            ([(1, 1)], [[0], [None]]), ([(0, 1), (2, 3), (0, 0)], [[0], [0], [None], [None]]),
        ]:
            for seen in ([], [(0, "in", "k", "a")], [(0, "in", "k", "a"), (1, "in", "k", "a")]):
                given = alone(gaps, seen)
                self.assert_answer(wanted, cost_table, given)
                for call in (first_unfit, fewest_wrong, wrong_set):
                    self.assert_error(NoStory, {}, call, given)
                for indexes in ([], [0][:len(seen)], list(range(len(seen)))):
                    self.assert_answer(False, is_wrong_set, given, indexes)
        given = alone([(1, 1)], [(0, "in", "k", "b")])
        self.assert_answer([[1], [None]], cost_table, given)
        self.assert_error(NoStory, {}, first_unfit, given)

    def test_equal_sightings_each_count(self):
        given = diary([], [(0, "in", "k", "b")] * 12)
        self.assert_answer([[None, 12, None, None]], cost_table, given)
        self.assert_answer(12, fewest_wrong, given)
        self.assert_answer(list(range(12)), wrong_set, given)
        given = diary([], [(0, "in", "k", "b"), (0, "in", "k", "a"), (0, "in", "k", "b")], from_start=False)
        self.assert_answer([[2, 2, 1, 1]], cost_table, given)
        self.assert_answer([1], wrong_set, given)

    def test_first_unfit(self):
        # Sightings count in the order in which they were passed, not by their moments.
        seen = [(1, "in", "k", "b"), (0, "in", "k", "a"), (1, "in", "k", "a"), (0, "in", "k", "b")]
        self.assert_answer(2, first_unfit, diary([(0, 3)], seen))
        self.assert_answer(2, first_unfit, diary([(0, 3)], seen, from_start=False))
        self.assert_answer(1, first_unfit, diary([(0, 0)], seen, from_start=False))
        self.assert_answer(0, first_unfit, diary([(0, 0)], seen))
        self.assert_answer(0, first_unfit, diary([(0, 3)], seen[::-1]))
        self.assert_answer(1, first_unfit, diary([(0, 3)], seen[::-1][1:2] + seen[::-1][:1]))
        self.assert_answer(None, first_unfit, diary([(0, 3)], seen[:2]))
        self.assert_answer(11, first_unfit, diary([], [(0, "in", "k", "a")] * 11 + [(0, "in", "k", "b")]))

    def test_wrong_sets(self):
        given = diary()
        for indexes, wanted in [
            ([0], True), ([0, 1], True), ([0, 2], True), ([0, 1, 2], True), ([], False), ([1], False), ([1, 2], False),
            ([2], False), ([1, 0], False), ([0, 0], False), ([0, 3], False), ([-1, 0], False), ([0, -1], False),
            ([-3], False), ([0, 1, 1], False), ([2, 1, 0], False), ([10**3999], False),
        ]:
            self.assert_answer(wanted, is_wrong_set, given, indexes)
            self.assert_answer(wanted, is_wrong_set, given, tuple(indexes))
        self.assert_answer(True, is_wrong_set, diary(seen=[]), [])
        self.assert_answer(False, is_wrong_set, diary(seen=[]), [0])

    def test_wrong_parts(self):
        for indexes in ([0, 1], (0, 2)):
            for changed in wrong_things(indexes):
                self.assert_same(is_wrong_set(diary(), changed), list(changed) in [[0], [0, 1], [0, 2]])
        for part in WEIRD:
            for indexes in ([part], [0, part], (part, 1)):
                self.assert_answer(list(indexes) in ([0], [0, 1]), is_wrong_set, diary(), indexes)


class CostTables(Case):
    """[66]: is_cost_table"""

    def assert_bound(self, wanted, table, number, given=None):
        given = diary() if given is None else given
        for one in (table, tuple(table), [tuple(costs) for costs in table], tuple(tuple(costs) for costs in table)):
            self.assert_answer(wanted, is_cost_table, given, one, number)

    def test_the_cost_table_bounds(self):
        self.assert_bound(True, TABLE, 1)
        for number in (0, 2, -1, 3, 10**3999):
            self.assert_bound(False, TABLE, number)

    def test_lower_entries(self):
        self.assert_bound(True, [[None, 1, None, None], [1, None, None, 2], [2, 1, 2, 2]], 1)
        self.assert_bound(True, [[None, 0, None, None], [0, None, None, 1], [1, 0, 1, 2]], 0)
        self.assert_bound(True, [[None, -5, None, None], [-5, None, None, -9], [-9, -9, -9, -9]], -9)
        self.assert_bound(True, [[None, -10**3999, None, None], [-10**3999] * 4, [-10**3999 - 1] * 4], -10**3999 - 1)
        self.assert_bound(True, [[None, 1, None, None], [1, None, None, 2], [-7, 1, 2, 3]], -7)
        # More entries than there need be.
        self.assert_bound(True, [[None, 1, None, None], [1, 9, None, 2], [2, 1, 2, 3]], 1)

    def test_higher_entries(self):
        for moment, costs in enumerate(TABLE):
            for at, cost in enumerate(costs):
                if cost is not None:
                    for wrong in (cost + 1, None, 10**3999):
                        table = [list(row) for row in TABLE]
                        table[moment][at] = wrong
                        wanted = [entry for entry in table[-1] if entry is not None]
                        self.assert_bound(False, table, min(wanted))

    def test_entries_that_follow_from_what_the_beginning_does_not_allow(self):
        table = [[None, 1, 0, None], [1, None, None, 2], [2, 1, 2, 3]]
        # From the world of rank 2 one deed leads to those of rank 0 and 3.
        self.assert_bound(False, table, 1)
        self.assert_bound(True, [[None, 1, 0, None], [0, None, None, 1], [1, 0, 1, 2]], 0)
        self.assert_bound(True, [[None, 1, 5, None], [1, None, None, 2], [2, 1, 2, 3]], 1)
        self.assert_bound(True, [[None, 1, 5, 10**9], [1, 10**9, 10**9, 2], [2, 1, 2, 3]], 1)

    def test_without_a_beginning(self):
        given = diary([(1, 1)], [(0, "in", "k", "b"), (1, "in", "k", "b")], from_start=False)
        self.assert_answer([[1, 1, 0, 0], [1, 1, 0, 0]], cost_table, given)
        self.assert_bound(True, [[1, 1, 0, 0], [1, 1, 0, 0]], 0, given)
        for at in range(4):
            table = [[1, 1, 0, 0], [1, 1, 0, 0]]
            table[0][at] = None
            self.assert_bound(False, table, 0, given)

    def test_no_journey(self):
        given = alone([(1, 1)], [])
        self.assert_bound(False, [[0], [None]], 0, given)
        self.assert_bound(True, [[0], [7]], 7, given)
        self.assert_bound(True, [[-3], [0]], 0, given)
        self.assert_bound(False, [[None], [7]], 7, given)
        self.assert_bound(False, [[1], [7]], 7, given)
        self.assert_bound(False, [[0], [7]], 6, given)

    def test_one_moment(self):
        given = diary([], [(0, "in", "k", "b")])
        self.assert_bound(True, [[None, 1, None, None]], 1, given)
        self.assert_bound(True, [[4, 1, -1, None]], -1, given)
        self.assert_bound(False, [[4, 1, -1, None]], 1, given)
        self.assert_bound(False, [[0, None, 0, 0]], 0, given)
        self.assert_bound(False, [[None, 2, None, None]], 2, given)
        self.assert_bound(False, [[None] * 4], 0, given)

    def test_other_lengths(self):
        for table in [
            [], TABLE[:2], TABLE[1:], TABLE + TABLE[2:], [TABLE[0][:3]] + TABLE[1:], TABLE[:2] + [TABLE[2] + [1]],
            [[]] + TABLE[1:], TABLE[:2] + [TABLE[2][:3]], TABLE[:1] + [TABLE[1] + [None]] + TABLE[2:], [[], [], []],
        ]:
            self.assert_bound(False, table, 1)

    def test_wrong_parts(self):
        right = [TABLE, [tuple(costs) for costs in TABLE], tuple(TABLE)]
        for table in right:
            for changed in wrong_things(table):
                self.assert_same(is_cost_table(diary(), changed, 1), self.slow_bound(changed))
        for part in WEIRD:
            for table in ([part] * 3, [part] + TABLE[1:], TABLE[:2] + [part], [[part] * 4] * 3):
                self.assert_same(is_cost_table(diary(), table, 1), False)

    def slow_bound(self, table):
        """Whether a changed TABLE still bounds the diary of the example with 1."""
        if len(table) != 3 or not all(type(costs) in (list, tuple) and len(costs) == 4 for costs in table):
            return False
        if not all(cost is None or type(cost) is int for costs in table for cost in costs):
            return False
        return slow_bounds(diary(), table) and min(cost for cost in table[2] if cost is not None) == 1


def slow_leads(given):
    """For each gap the pairs of rows between which it can lead."""
    yard = given.world.yard
    rows = sorted(slow.distances(yard, given.world.row))
    found = []
    for low, high in given.gaps():
        after = {row: slow.rows_after(yard, row, 3) for row in rows}
        found.append({(row, other) for row in rows for many in range(low, high + 1) for other in after[row][many]})
    return rows, found


def slow_bounds(given, table, known=None):
    """Whether the table has the right lengths and kinds, and bounds the diary [66]."""
    yard = given.world.yard
    rows, leads = slow_leads(given) if known is None else known

    def wrong(moment, row):
        return sum(seen[0] == moment and not slow.holds(yard, row, seen[1:]) for seen in given.sightings())

    for row, cost in zip(rows, table[0]):
        if (not given.from_start or row == given.world.row) and (cost is None or cost > wrong(0, row)):
            return False
    for moment, pairs in enumerate(leads):
        before, after = dict(zip(rows, table[moment])), dict(zip(rows, table[moment + 1]))
        for row, other in pairs:
            if before[row] is not None:
                if after[other] is None or after[other] > before[row] + wrong(moment + 1, other):
                    return False
    return any(cost is not None for cost in table[-1])


class AllTogether(Case):
    """Against all sequences of worlds."""

    def diaries(self):
        chance = random.Random(9)
        for text in slow.CLASSES[:9] + [SHOWN, ALONE]:
            world = parse_world(text)
            many = count(world)
            if many > 12:
                continue
            known = slow.all_wishes(world.yard)
            for _ in range(6):
                most = 3 if many <= 4 else 2 if many <= 6 else 1
                gaps = [sorted((chance.randint(0, 3), chance.randint(0, 3))) for _ in range(chance.randint(0, most))]
                seen = [(chance.randint(0, len(gaps)), *chance.choice(known)) for _ in range(chance.randint(0, 6))]
                yield Diary(world, [tuple(gap) for gap in gaps], seen, from_start=chance.random() < 0.6)

    def test_small_classes(self):
        chance = random.Random(13)
        kinds = set()
        for given in self.diaries():
            kinds.add(self.check(given))
            self.check_tables(given, chance)
        # Diaries without a journey, without a story, and with one.
        self.assert_same(kinds, {"no journey", "no story", "story"})

    def check(self, given):
        yard = given.world.yard
        rows, leads = slow_leads(given)
        seen = given.sightings()
        journeys = [
            way for way in itertools.product(rows, repeat=given.moments)
            if all((here, after) in pairs for pairs, here, after in zip(leads, way, way[1:]))
            and (not given.from_start or way[0] == given.world.row)
        ]
        wrongs = {way: [at for at, one in enumerate(seen) if not slow.holds(yard, way[one[0]], one[1:])] for way in journeys}
        stories = [way for way in journeys if not wrongs[way]]
        found = story(given)
        self.assert_same(found is not None, bool(stories))
        if stories:
            self.assertIn(tuple(world.row for world in found), stories)
            self.assertTrue(is_story(given, found))
        for way in itertools.islice(itertools.product(rows, repeat=given.moments), 0, None, 17):
            self.assert_same(is_story(given, [World.from_row(yard, row) for row in way]), way in stories)
        for moment in range(given.moments):
            some = sorted({way[moment] for way in stories})
            self.assert_same([world.row for world in possible(given, moment)], some)
            for at, box in enumerate(yard.boxes):
                places = sorted({row[at] for row in some})
                self.assert_same(may_at(given, moment, box), places)
                if stories:
                    self.assert_same(must_at(given, moment, box), places[0] if len(places) == 1 else None)
                else:
                    self.assert_error(NoStory, {}, must_at, given, moment, box)
        self.check_costs(given, rows, leads, seen)
        if not journeys:
            for call in (first_unfit, fewest_wrong, wrong_set):
                self.assert_error(NoStory, {}, call, given)
            self.assert_same((count(given.world), any(low > 0 for low, _ in given.gaps())), (1, True))
            return "no journey"
        self.check_wrongs(given, seen, list(wrongs.values()))
        return "story" if stories else "no story"

    def check_wrongs(self, given, seen, wrongs):
        self.assert_same(fewest_wrong(given), min(map(len, wrongs)))
        self.assert_same(len(wrong_set(given)), min(map(len, wrongs)))
        self.assertTrue(is_wrong_set(given, wrong_set(given)))
        for many in range(len(seen) + 1):
            for indexes in itertools.islice(itertools.combinations(range(len(seen)), many), 0, None, 3):
                wanted = any(set(wrong) <= set(indexes) for wrong in wrongs)
                self.assert_same(is_wrong_set(given, list(indexes)), wanted)
        firsts = [at for at in range(len(seen)) if all(wrong and wrong[0] <= at for wrong in wrongs)]
        self.assert_same(first_unfit(given), firsts[0] if firsts else None)

    def check_costs(self, given, rows, leads, seen):
        yard = given.world.yard
        wanted = []
        for moment in range(given.moments):
            costs = []
            for row in rows:
                ways = [
                    way for way in itertools.product(rows, repeat=moment + 1) if way[-1] == row
                    and all((here, after) in pairs for pairs, here, after in zip(leads, way, way[1:]))
                    and (not given.from_start or way[0] == given.world.row)
                ]
                wrong = [
                    sum(one[0] <= moment and not slow.holds(yard, way[one[0]], one[1:]) for one in seen) for way in ways
                ]
                costs.append(min(wrong) if wrong else None)
            wanted.append(costs)
        self.assert_same(cost_table(given), wanted)

    def check_tables(self, given, chance):
        right = cost_table(given)
        known = slow_leads(given)
        for _ in range(12):
            table = [list(costs) for costs in right]
            for _ in range(chance.randint(0, 3)):
                costs = chance.choice(table)
                at = chance.randrange(len(costs))
                costs[at] = chance.choice([None, -1, 0, 1, 2, 3, (costs[at] or 0) - 1])
            ends = [cost for cost in table[-1] if cost is not None]
            number = min(ends) if ends else 0
            wanted = slow_bounds(given, table, known)
            self.assert_same(is_cost_table(given, table, number), wanted)
            self.assert_same(is_cost_table(given, table, number + 1), False)
            # What the document says: no journey has fewer wrong sightings than the number.
            if wanted and right[-1] != [None] * len(right[-1]):
                self.assertLessEqual(number, fewest_wrong(given))

    def test_seven_gaps_and_twelve_sightings_in_24_worlds(self):
        world = four_apart(4)
        seen = [(at % 8, "in", NAMES[at % 4], "stuv"[at * 3 % 4]) for at in range(12)]
        for gaps in ([(0, 3)] * 7, [(1, 2)] * 7):
            given = Diary(world, gaps, seen)
            table = cost_table(given)
            self.assert_same([len(costs) for costs in table], [24] * 8)
            self.assertTrue(is_cost_table(given, table, fewest_wrong(given)))
            self.assertTrue(is_wrong_set(given, wrong_set(given)))
            self.assertTrue(is_story(struck(given, wrong_set(given)), story(struck(given, wrong_set(given)))))
            for moment in range(8):
                self.assert_same(len(possible(Diary(world, gaps, []), moment)) > 0, True)

    def test_the_order_of_the_names_does_not_matter(self):
        yard = Yard(["b", "a"], {"t": 1, "n": 1, "m": 2, "k": 3})
        again = World(yard, {"t": "a", "n": "m", "m": "b", "k": "a"})
        for seen in ([], SEEN[1:], SEEN):
            first, second = Diary(again, [(1, 1), (0, 1)], seen), diary(seen=seen)
            for call in (story, cost_table, wrong_set, first_unfit):
                self.assert_same(call(first), call(second))


if __name__ == "__main__":
    unittest.main()
