"""nestweigh/passage.py: points [3], [4], [5] and [31] to [34]."""

import unittest

from nestweigh.deeds import exchange
from nestweigh.errors import NotComing, OtherYard
from nestweigh.histories import moving
from nestweigh.holding import full_weights
from nestweigh.passage import bar, comes, grouped, history, is_bar, is_history, is_verdict, verdict
from nestweigh.slots import bags, mark
from nestweigh.texts import parse_world
from nestweigh.worlds import World
from nestweigh.yards import Yard
from tests import slow
from tests.support import WEIRD, Case, wrong_things

SHOWN = "shelf a\nshelf b\nbox k 3 in a\nbox m 2 in b\nbox n 1 in m\nbox t 1 in a"
SEALED = (
    "shelf a\nshelf b\nshelf c sealed\nbox f 1 in a\nbox g 1 in b\nbox h 1 in c\nbox i 1 in a nailed\nbox j 2 in b"
)
OTHER_YARDS = [
    SEALED.replace("f 1", "f 2"), SEALED.replace(" nailed", ""), SEALED.replace(" sealed", ""),
    SEALED.replace("box j", "box l"), SEALED.replace("shelf b", "shelf b sealed"),
    SEALED.replace("shelf c sealed\n", "shelf c sealed\nshelf d\n"), SEALED + "\nbox k 2 in b", SHOWN,
]
PAPERS = [(), ("bag",), ("fixed", "i", "a", "b"), ("none", "a", (), ()), (None,), ((("a",),), [["b"]])]


def shown():
    return parse_world(SHOWN)


def sealed():
    return parse_world(SEALED)


def moved(world, **places):
    for box, holder in places.items():
        world = world.moved(box, holder)
    return world


class PassageCase(Case):
    def assert_comes(self, start, goal):
        self.assert_answer(None, bar, start, goal)
        self.assert_answer(True, comes, start, goal)
        deeds = history(start, goal)
        self.assert_answer(deeds, history, start, goal)
        self.assert_same(deeds, [tuple(sorted(deed)) for deed in deeds])
        self.assert_answer(True, is_history, start, goal, deeds)
        self.assert_answer(("history", deeds), verdict, start, goal)
        self.assert_answer(True, is_verdict, start, goal, ("history", deeds))
        boxes = moving(start, goal)
        kinds = {full_weights(start)[box] for box in boxes}
        self.assertLessEqual(len(deeds), len(boxes) - len(kinds))

    def assert_barred(self, paper, start, goal):
        self.assert_answer(paper, bar, start, goal)
        self.assert_answer(False, comes, start, goal)
        self.assert_error(NotComing, {"bar": paper}, history, start, goal)
        self.assert_answer(("bar", paper), verdict, start, goal)
        self.assert_answer(True, is_bar, start, goal, paper)
        self.assert_answer(True, is_verdict, start, goal, ("bar", paper))


class Comes(PassageCase):
    """[31]"""

    def test_equal_worlds(self):
        self.assert_comes(shown(), shown())
        self.assert_comes(sealed(), sealed())
        self.assert_answer([], history, sealed(), sealed())

    def test_one_deed(self):
        self.assert_comes(shown(), exchange(shown(), "k", "m"))
        self.assert_comes(exchange(shown(), "k", "m"), shown())
        self.assert_answer([("n", "t")], history, shown(), exchange(shown(), "t", "n"))

    def test_deeds_of_several_weights(self):
        goal = exchange(exchange(shown(), "k", "m"), "n", "t")
        self.assert_comes(shown(), goal)
        self.assert_same(len(history(shown(), goal)), 2)

    def test_boxes_of_several_weights_between_the_same_shelves(self):
        world = parse_world("shelf a\nshelf b\nbox e 2 in a\nbox f 1 in a\nbox g 1 in b\nbox h 2 in b")
        self.assert_comes(world, moved(world, e="b", f="b", g="a", h="a"))
        self.assert_comes(world, moved(world, e="b", h="a"))

    def test_a_ring_of_twelve(self):
        names = [f"b{number:02}" for number in range(12)]
        yard = Yard(["s", "t", "u", "v"], {name: 7 for name in names})
        start = World(yard, {name: "stuv"[at % 4] for at, name in enumerate(names)})
        goal = World(yard, {name: "tuvs"[at % 4] for at, name in enumerate(names)})
        self.assert_comes(start, goal)
        self.assert_comes(start, World(yard, {name: "tsvu"[at % 4] for at, name in enumerate(names)}))

    def test_into_each_other(self):
        world = parse_world("shelf a\nbox h 5 in a\nbox i 5 in a\nbox j 1 in h\nbox l 1 in i\nbox r 1 in a")
        self.assert_comes(world, exchange(exchange(world, "j", "r"), "r", "l"))

    def test_what_lies_deeper_under_a_seal_may_come(self):
        world = parse_world("shelf a sealed\nshelf b\nbox h 2 in a nailed\nbox i 1 in h\nbox r 1 in b")
        self.assert_comes(world, exchange(world, "i", "r"))


class Bars(PassageCase):
    """[33]"""

    def test_unequal_bags(self):
        self.assert_barred(("bag", "a", (1, 1), (1, 1, 1)), sealed(), moved(sealed(), g="a"))
        self.assert_barred(("bag", "b", (1, 2), (3,)), sealed(), moved(sealed(), j="g"))
        self.assert_barred(("bag", "a", (1, 3), (3,)), shown(), moved(shown(), t="n"))

    def test_bags_are_computed_each_from_its_own_world(self):
        # The same boxes lie on both shelves, but they have other full weights.
        start = parse_world("shelf a\nshelf b\nbox h 1 in a\nbox i 1 in b\nbox j 1 in h")
        self.assert_barred(("bag", "a", (2,), (1,)), start, moved(start, j="i"))
        self.assert_answer(True, is_bar, start, moved(start, j="i"), ("bag", "b", (1,), (2,)))

    def test_a_nailed_box(self):
        self.assert_barred(("fixed", "i", "a", "b"), sealed(), moved(sealed(), i="b", g="a"))

    def test_a_seal_in_the_start_and_in_the_goal(self):
        self.assert_barred(("fixed", "f", "a", "c"), sealed(), moved(sealed(), f="c", h="a"))
        self.assert_barred(("fixed", "f", "c", "a"), moved(sealed(), f="c", h="a"), sealed())
        self.assert_barred(("fixed", "g", "b", "c"), sealed(), moved(sealed(), g="c", h="b"))

    def test_the_least_box(self):
        goal = moved(sealed(), f="c", h="b", g="a")
        self.assert_barred(("fixed", "f", "a", "c"), sealed(), goal)
        self.assert_barred(("fixed", "h", "c", "a"), sealed(), moved(sealed(), i="c", h="a"))

    def test_a_bag_goes_before_a_fixed_box(self):
        self.assert_barred(("bag", "b", (1, 2), (3,)), sealed(), moved(sealed(), f="c", h="a", g="j"))
        goal = moved(sealed(), i="c", h="a", j="a")
        self.assert_barred(("bag", "a", (1, 1), (1, 1, 2)), sealed(), goal)
        self.assert_answer(True, is_bar, sealed(), goal, ("bag", "b", (1, 2), (1,)))
        self.assert_answer(True, is_bar, sealed(), goal, ("fixed", "i", "a", "c"))
        self.assert_answer(True, is_bar, sealed(), goal, ("fixed", "h", "c", "a"))
        self.assert_answer(True, is_verdict, sealed(), goal, ("bar", ("fixed", "h", "c", "a")))

    def test_wrong_bars(self):
        goal = moved(sealed(), i="c", h="a", j="a")
        wrong = [
            ("fixed", "j", "b", "a"), ("fixed", "f", "a", "a"), ("fixed", "i", "c", "a"), ("fixed", "i", "a", "b"),
            ("bag", "c", (1,), (1,)), ("bag", "a", (1, 1, 2), (1, 1)), ("bag", "b", (2, 1), (1,)),
            ("bag", "a", [1, 1], (1, 1, 2)), ("bag", "a", (1, 1), [1, 1, 2]), ("bag", "x", (), ()),
            ("bag", "a", (1, 1), (1, 1, 2), ()), ("bag", "a", (1, 1)), ("bag", "i", "a", "c"), ("fixed", "x", "a", "c"),
            ("fixed", "a", (1, 1), (1, 1, 2)), ("bag", "a", (1, 1), (1, 1, 3)), ("bag", "a", (1,), (1, 1, 2)),
        ]
        for paper in wrong + PAPERS + [part for part in WEIRD if isinstance(part, tuple)]:
            self.assert_answer(False, is_bar, sealed(), goal, paper)
            self.assert_answer(False, is_verdict, sealed(), goal, ("bar", paper))
        for paper in [("bag", "a", (1, 1), (1, 1, 2)), ("fixed", "i", "a", "c")]:
            self.assert_answer(True, is_bar, sealed(), goal, paper)
            for changed in wrong_things(paper):
                self.assert_same(is_bar(sealed(), goal, changed), False)
                self.assert_same(is_verdict(sealed(), goal, ("bar", changed)), False)

    def test_a_great_certificate(self):
        self.assert_answer(False, is_bar, shown(), shown(), tuple(range(6000)))
        self.assert_answer(False, is_bar, shown(), moved(shown(), t="n"), ("bag", "a", (1, 3), tuple(range(5000))))

    def test_no_bar_where_the_goal_comes(self):
        goal = exchange(sealed(), "f", "g")
        for paper in PAPERS + [("fixed", "f", "a", "b"), ("bag", "a", (1, 1), (1, 1))]:
            self.assert_answer(False, is_bar, sealed(), goal, paper)
            self.assert_answer(False, is_verdict, sealed(), goal, ("bar", paper))


class Histories(PassageCase):
    """[5], [25]: is_history"""

    def test_valid_ones_of_any_length(self):
        goal = exchange(sealed(), "f", "g")
        for deeds in [[("f", "g")], [("g", "f")], (("f", "g"),), [("g", "f"), ("f", "g"), ("g", "f")]]:
            self.assert_answer(True, is_history, sealed(), goal, deeds)
            self.assert_answer(True, is_verdict, sealed(), goal, ("history", deeds))
        for deeds in [[], (), [("f", "g")] * 2, [("f", "g")] * 500]:
            self.assert_answer(True, is_history, sealed(), sealed(), deeds)

    def test_valid_ones_that_end_elsewhere(self):
        self.assert_answer(False, is_history, sealed(), sealed(), [("f", "g")])
        self.assert_answer(False, is_history, sealed(), exchange(sealed(), "f", "g"), [])
        self.assert_answer(False, is_history, sealed(), moved(sealed(), i="b"), [("f", "g")])

    def test_refused_deeds(self):
        for deed in [("f", "x"), ("f", "f"), ("f", "h"), ("f", "i"), ("f", "j"), ("i", "f"), ("a", "f"), ("", "Z")]:
            self.assert_answer(False, is_history, sealed(), sealed(), [deed])
            self.assert_answer(False, is_history, sealed(), sealed(), [("f", "g"), deed, ("f", "g")])
            self.assert_answer(False, is_verdict, sealed(), sealed(), ("history", [deed]))

    def test_wrong_parts(self):
        goal = exchange(shown(), "k", "m")
        for deeds in [[("k", "m")], (("n", "t"), ("k", "m"), ("n", "t"))]:
            self.assert_answer(True, is_history, shown(), goal, deeds)
            for changed in wrong_things(deeds):
                self.assert_same(is_history(shown(), goal, changed), False)
                self.assert_same(is_verdict(shown(), goal, ("history", changed)), False)
        for part in WEIRD:
            self.assert_answer(False, is_history, shown(), shown(), [part])
            self.assert_answer(False, is_history, shown(), shown(), [("k", "m"), part])
            self.assert_answer(False, is_history, shown(), shown(), ((part, "m"), ("k", "m")))


class Verdicts(PassageCase):
    def test_wrong_outer_parts(self):
        goal = exchange(shown(), "k", "m")
        barred = moved(shown(), t="n")
        paper = bar(shown(), barred)
        for told in [
            (), ("history",), ("bar",), ("history", [("k", "m")], ()), ("bar", paper, ()), ([("k", "m")], "history"),
            ("", [("k", "m")]), (None, None), ("bar", None), ("history", None), ("history", "km"), ("history", 3),
            ("bar", "bag"), ("bar", 7), ("bar", list(paper)), ("history", paper), ("bar", [("k", "m")]),
            (["history"], [("k", "m")]), ((("history",),), [("k", "m")]), ("History", [("k", "m")]), (0, 1),
        ]:
            self.assert_answer(False, is_verdict, shown(), goal, told)
            self.assert_answer(False, is_verdict, shown(), barred, told)
        for right, world in [(("history", [("k", "m")]), goal), (("bar", paper), barred)]:
            self.assert_answer(True, is_verdict, shown(), world, right)
            for part in WEIRD:
                self.assert_same(is_verdict(shown(), world, (part, right[1])), False)
                self.assert_same(is_verdict(shown(), world, (right[0], part)), False)
                self.assert_same(is_verdict(shown(), world, right + (part,)), False)

    def test_one_kind_of_verdict_does_not_stand_for_the_other(self):
        self.assert_answer(False, is_verdict, shown(), shown(), ("bar", bar(shown(), moved(shown(), t="n"))))
        self.assert_answer(False, is_verdict, shown(), moved(shown(), t="n"), ("history", []))
        self.assert_answer(False, is_verdict, shown(), moved(shown(), t="n"), ("history", ()))


class OtherYards(Case):
    def test_goes_first(self):
        for text in OTHER_YARDS:
            for start, goal in [(sealed(), parse_world(text)), (parse_world(text), sealed())]:
                for call in (bar, comes, history, verdict):
                    self.assert_error(OtherYard, {}, call, start, goal)
                self.assert_error(OtherYard, {}, is_bar, start, goal, ())
                self.assert_error(OtherYard, {}, is_verdict, start, goal, ())
                for deeds in ([], [None], [("x", "y")]):
                    self.assert_error(OtherYard, {}, is_history, start, goal, deeds)
                self.assert_error(OtherYard, {}, grouped, [start, goal])
                self.assert_error(OtherYard, {}, grouped, (start, start, goal, start))

    def test_the_order_of_names_does_not_matter(self):
        first = World(Yard(["a", "b"], {"x": 1, "y": 1}, nailed=[], sealed=["y", "x"]), {"x": "a", "y": "b"})
        second = World(Yard(["b", "a"], {"y": 1, "x": 1}, sealed=("x", "y")), {"y": "a", "x": "b"})
        self.assert_answer([("x", "y")], history, first, second)


class Grouped(Case):
    """[32]"""

    def test_few_worlds(self):
        for worlds in ([], ()):
            self.assert_answer([], grouped, worlds)
        self.assert_answer([[0]], grouped, [shown()])
        self.assert_answer([[0, 1]], grouped, (shown(), shown()))
        self.assert_answer([[0], [1]], grouped, [shown(), moved(shown(), t="n")])

    def test_twelve_worlds(self):
        here, there = exchange(sealed(), "f", "g"), moved(sealed(), j="a")
        nailed = moved(sealed(), i="b", g="a")
        worlds = [here, there, sealed(), nailed, there, here, exchange(there, "f", "g"), nailed, sealed(), there]
        self.assert_answer([[0, 2, 5, 8, 11], [1, 4, 6, 9, 10], [3, 7]], grouped, worlds + [there, here])
        self.assert_answer([list(range(12))], grouped, [here] * 12)

    def test_twelve_classes(self):
        yard = Yard(["a", "b"], {"x": 1, "y": 2, "z": 4, "w": 8})
        rows = slow.all_rows(yard)[:12]
        self.assertEqual(len({mark(World.from_row(yard, row)) for row in rows}), 12)
        self.assert_answer([[at] for at in range(12)], grouped, [World.from_row(yard, row) for row in rows])


class AllTogether(PassageCase):
    """All pairs of worlds of small yards against trying every deed."""

    def test_small_yards(self):
        for yard in slow.small_yards()[:5]:
            rows = slow.all_rows(yard)
            worlds = {row: World.from_row(yard, row) for row in rows}
            for row in rows[::2]:
                reached = slow.distances(yard, row)
                for other in rows:
                    self.assert_same(comes(worlds[row], worlds[other]), other in reached)
                    if other in reached:
                        deeds = history(worlds[row], worlds[other])
                        self.assertTrue(is_history(worlds[row], worlds[other], deeds))
                        self.assertLessEqual(reached[other], len(deeds))

    def test_marks_and_classes(self):
        for yard in slow.small_yards():
            rows = slow.all_rows(yard)
            classes = {}
            for row in rows:
                classes.setdefault(mark(World.from_row(yard, row)), set()).add(row)
            for row in rows[::5]:
                self.assertEqual(set(slow.distances(yard, row)), classes[mark(World.from_row(yard, row))])

    def test_all_bars(self):
        yard = slow.small_yards()[4]
        rows = slow.all_rows(yard)
        for row in rows[::4]:
            for other in rows[::3]:
                start, goal = World.from_row(yard, row), World.from_row(yard, other)
                for paper in self.papers(start, goal):
                    self.assert_same(is_bar(start, goal, paper), self.is_right(start, goal, paper))

    def papers(self, start, goal):
        for holder in start.yard.holders:
            yield "bag", holder, bags(start)[holder], bags(goal)[holder]
            yield "bag", holder, bags(goal)[holder], bags(start)[holder]
        for box in start.yard.boxes:
            yield "fixed", box, start.holder(box), goal.holder(box)
            yield "fixed", box, goal.holder(box), start.holder(box)

    def is_right(self, start, goal, paper):
        word, name, first, second = paper
        if word == "bag":
            return first != second and (first, second) == (bags(start)[name], bags(goal)[name])
        kept = name in start.yard.nailed or {first, second} & set(start.yard.sealed)
        return bool(kept) and first != second and (first, second) == (start.holder(name), goal.holder(name))


if __name__ == "__main__":
    unittest.main()
