"""nestweigh/pieces.py: points [3], [4], [5] and [57] to [61]."""

import itertools
import random
import unittest

from nestweigh.classes import count
from nestweigh.errors import BadCount, BadName, BadWeight, Clash, OtherDoors, Sealed, Unknown
from nestweigh.pieces import Piece, Surrounding, alike_everywhere, glue, is_telling, piece_mark, telling
from nestweigh.texts import format_world, parse_world
from nestweigh.worlds import World
from nestweigh.yards import Yard
from tests import slow
from tests.support import Case

SHOWN = "shelf a\nshelf b\nbox k 3 in a\nbox m 2 in b\nbox n 1 in m\nbox t 1 in a"
AROUND = "shelf s\nshelf t sealed\nbox x 5 in s\nbox y 3 in x nailed\nbox z 1 in t sealed"
NAMES = [f"b{number:02}" for number in range(12)]


def piece(text=SHOWN):
    return Piece(parse_world(text))


def around(places=None, text=AROUND):
    return Surrounding(parse_world(text), {"a": "s", "b": "x"} if places is None else places)


def boxes(many, weight=1):
    """A world of so many boxes on one shelf."""
    return World(Yard(["d"], {name: weight for name in NAMES[:many]}), {name: "d" for name in NAMES[:many]})


class Pieces(Case):
    """[57]: the class Piece"""

    def test_properties(self):
        self.assert_same(piece().world, parse_world(SHOWN))
        self.assert_same(piece().doors, ("a", "b"))
        self.assert_same(Piece(parse_world("shelf d\nbox k 1 in d")).doors, ("d",))
        self.assert_same(Piece(parse_world("shelf d\nshelf e\nshelf f\nbox k 1 in d")).doors, ("d", "e", "f"))
        again = World(Yard(["b", "a"], {"t": 1, "n": 1, "m": 2, "k": 3}), {"t": "a", "n": "m", "m": "b", "k": "a"})
        self.assert_same(Piece(again).doors, ("a", "b"))

    def test_too_many_doors(self):
        text = "shelf d\nshelf e\nshelf f\nshelf g"
        self.assert_error(BadCount, {"what": "doors", "many": 4}, Piece, parse_world(text + "\nbox k 1 in d"))

    def test_sealed_doors(self):
        for text, name in [
            ("shelf d\nshelf e sealed\nshelf f sealed\nbox k 1 in d", "e"), ("shelf d sealed\nbox k 1 in d", "d"),
            ("shelf d\nshelf e\nshelf f sealed\nbox k 1 in d sealed", "f"),
        ]:
            self.assert_error(Sealed, {"name": name}, Piece, parse_world(text))
        # Sealed boxes are no fault.
        self.assert_same(Piece(parse_world("shelf d\nbox k 1 in d sealed")).doors, ("d",))

    def test_too_many_boxes(self):
        self.assert_same(Piece(boxes(8)).world, boxes(8))
        for many in (9, 12):
            self.assert_error(BadCount, {"what": "boxes", "many": many}, Piece, boxes(many))

    def test_too_heavy_boxes(self):
        self.assert_same(len(Piece(boxes(8, 1000000)).world), 8)
        self.assert_error(BadWeight, {"weight": 1000001}, Piece, boxes(8, 1000001))
        text = "shelf d\nbox k 1 in d\nbox m 2000000 in d\nbox n 1000000000 in d\nbox t 1000001 in d"
        self.assert_error(BadWeight, {"weight": 2000000}, Piece, parse_world(text))
        # The full weight may be greater.
        self.assert_same(Piece(parse_world("shelf d\nbox k 1000000 in m\nbox m 1000000 in d")).doors, ("d",))

    def test_the_first_fault_is_told(self):
        yard = Yard(list("defg"), {name: 10**9 for name in NAMES[:9]}, sealed=["e"])
        world = World(yard, {name: "d" for name in NAMES[:9]})
        self.assert_error(BadCount, {"what": "doors", "many": 4}, Piece, world)
        yard = Yard(list("def"), {name: 10**9 for name in NAMES[:9]}, sealed=["e"])
        world = World(yard, {name: "d" for name in NAMES[:9]})
        self.assert_error(Sealed, {"name": "e"}, Piece, world)
        self.assert_error(BadCount, {"what": "boxes", "many": 9}, Piece, boxes(9, 10**9))

    def test_equal_pieces(self):
        self.assert_same(piece() == piece(), True)
        self.assert_same(piece() != piece(), False)
        self.assert_same(piece() == piece(SHOWN.replace("t 1", "t 2")), False)
        self.assert_same(piece() == piece(SHOWN.replace("t 1 in a", "t 1 in b")), False)
        for thing in (parse_world(SHOWN), None, 0, "a", (), around()):
            self.assert_same(piece() == thing, False)


class Sums(Case):
    """p + q"""

    def test_boxes_of_both(self):
        first = piece("shelf a\nshelf b\nbox k 3 in a\nbox m 2 in k nailed\nbox n 1 in b sealed")
        second = piece("shelf a\nshelf b\nbox e 5 in b sealed\nbox l 4 in e nailed\nbox z 7 in a")
        wanted = piece(
            "shelf a\nshelf b\nbox e 5 in b sealed\nbox k 3 in a\nbox l 4 in e nailed\nbox m 2 in k nailed\n"
            "box n 1 in b sealed\nbox z 7 in a"
        )
        self.assert_answer(wanted, lambda: first + second)
        self.assert_answer(wanted, lambda: second + first)
        self.assertIs(type(first + second), Piece)
        self.assert_same(first, piece("shelf a\nshelf b\nbox k 3 in a\nbox m 2 in k nailed\nbox n 1 in b sealed"))

    def test_other_doors(self):
        for text in ["shelf a\nbox k 1 in a", "shelf a\nshelf c\nbox k 1 in a", "shelf a\nshelf b\nshelf c\nbox k 1 in a"]:
            self.assert_error(OtherDoors, {}, lambda: piece() + piece(text))
            self.assert_error(OtherDoors, {}, lambda: piece(text) + piece())

    def test_clash(self):
        second = piece("shelf a\nshelf b\nbox g 1 in a\nbox n 1 in a\nbox t 1 in b\nbox u 1 in a")
        self.assert_error(Clash, {"name": "n"}, lambda: piece() + second)
        self.assert_error(Clash, {"name": "n"}, lambda: second + piece())
        self.assert_error(Clash, {"name": "k"}, lambda: piece() + piece())

    def test_number_of_boxes(self):
        names = list("pqrst")
        for many in (4, 5):
            yard = Yard(["d"], {name: 1 for name in names[:many]})
            other = Piece(World(yard, {name: "d" for name in names[:many]}))
            if many == 4:
                self.assert_same(len((Piece(boxes(4)) + other).world), 8)
            else:
                self.assert_error(BadCount, {"what": "boxes", "many": 9}, lambda: Piece(boxes(4)) + other)
                self.assert_error(BadCount, {"what": "boxes", "many": 13}, lambda: Piece(boxes(8)) + other)

    def test_the_first_error_is_told(self):
        self.assert_error(Clash, {"name": "b00"}, lambda: Piece(boxes(8)) + Piece(boxes(8)))
        other = piece("shelf e\nbox b00 1 in e")
        self.assert_error(OtherDoors, {}, lambda: Piece(boxes(8)) + other)


class Surroundings(Case):
    """[58]: the class Surrounding"""

    def test_places(self):
        found = around({"b": "x", "a": "s", "zz": "y", "k": "s"})
        self.assert_same(found.world, parse_world(AROUND))
        self.assert_answer({"a": "s", "b": "x", "k": "s", "zz": "y"}, found.places)
        for door, place in [("a", "s"), ("b", "x"), ("k", "s"), ("zz", "y")]:
            self.assert_answer(place, found.place, door)
        self.assert_answer({}, around({}).places)
        self.assert_answer({name: "z" for name in NAMES[:8]}, around({name: "z" for name in NAMES[:8]}).places)

    def test_doors_without_a_place(self):
        for door in ["c", "s", "x", "", "A", "no name"]:
            self.assert_error(Unknown, {"name": door}, around().place, door)

    def test_number_of_boxes(self):
        self.assert_same(len(Surrounding(boxes(4), {}).world), 4)
        for many in (5, 12):
            self.assert_error(BadCount, {"what": "boxes", "many": many}, Surrounding, boxes(many), {})
            self.assert_error(BadCount, {"what": "boxes", "many": many}, Surrounding, boxes(many), {"A": "none"})
        # Shelves are not counted, and may be sealed; weights are those of any world.
        text = "shelf a\nshelf b\nshelf c\nshelf d sealed\nbox k 1000000000 in d"
        self.assert_same(Surrounding(parse_world(text), {"a": "d"}).place("a"), "d")

    def test_faulty_places(self):
        for name in ["", "A", "1a", "a b", "abcdefghi"]:
            self.assert_error(BadName, {"name": name}, around, {"a": "s", name: "s"})
            self.assert_error(BadName, {"name": name}, around, {"a": "s", name: "none", "b": "no"})
        for place in ["a", "", "S", "no name"]:
            self.assert_error(Unknown, {"name": place}, around, {"a": "s", "b": place, "A": "s"})

    def test_later_changes(self):
        places = {"a": "s"}
        found = around(places)
        places["a"] = "x"
        places["b"] = "x"
        self.assert_same(found.places(), {"a": "s"})
        found.places()["a"] = "y"
        self.assert_same(found.place("a"), "s")

    def test_it_never_changes(self):
        for found, names in [(around(), ["world"]), (piece(), ["world", "doors"])]:
            for name in names:
                with self.assertRaises(AttributeError):
                    setattr(found, name, None)


class Gluing(Case):
    """[59]: glue"""

    def test_all_that_is_kept(self):
        inner = piece("shelf a\nshelf b\nbox k 3 in a nailed\nbox m 2 in b sealed\nbox n 1 in m\nbox o 1 in a")
        self.assert_answer(
            parse_world(
                "shelf s\nshelf t sealed\nbox k 3 in s nailed\nbox m 2 in x sealed\nbox n 1 in m\nbox o 1 in s\n"
                "box x 5 in s\nbox y 3 in x nailed\nbox z 1 in t sealed"
            ), glue, inner, around(),
        )

    def test_several_doors_with_one_place_and_a_sealed_place(self):
        for places in [{"a": "t", "b": "t"}, {"a": "z", "b": "z"}, {"a": "y", "b": "y"}]:
            found = glue(piece(SHOWN.replace("t 1", "u 1").replace("box t", "box u")), around(places))
            self.assert_same([found.holder(box) for box in "kmnu"], [places["a"], places["b"], "m", places["a"]])
            self.assert_same(found.yard.sealed, ("t", "z"))

    def test_names_of_doors(self):
        # The door has the name of a shelf, a box, or nothing of the surrounding.
        for door in ["s", "t", "x", "y", "q"]:
            inner = piece(f"shelf {door}\nbox k 1 in {door}\nbox m 1 in k")
            found = glue(inner, around({door: "x"}))
            self.assert_same((found.holder("k"), found.holder("m")), ("x", "k"))
            self.assert_same(found.yard.shelves, ("s", "t"))
            self.assert_same(found.yard.boxes, ("k", "m", "x", "y", "z"))
        # A door whose place is named as another door.
        inner = piece("shelf s\nshelf x\nbox k 1 in s\nbox m 1 in x")
        found = glue(inner, around({"s": "x", "x": "s"}))
        self.assert_same((found.holder("k"), found.holder("m")), ("x", "s"))

    def test_entries_for_other_doors_are_ignored(self):
        found = glue(piece("shelf a\nbox k 1 in a\nbox m 1 in k"), around({"a": "s", "b": "x", "k": "y", "c": "t"}))
        self.assert_same((found.holder("k"), found.holder("m")), ("s", "k"))
        self.assert_same(len(found), 5)

    def test_doors_without_a_place(self):
        for places, name in [({}, "a"), ({"a": "s"}, "b"), ({"b": "s"}, "a"), ({"k": "s", "c": "s", "b": "s"}, "a")]:
            self.assert_error(Unknown, {"name": name}, glue, piece(), around(places))
        # Also a door on which nothing lies.
        self.assert_error(Unknown, {"name": "b"}, glue, piece("shelf a\nshelf b\nbox k 1 in a"), around({"a": "s"}))

    def test_clash(self):
        for name in ["s", "t", "x", "y", "z"]:
            inner = piece(f"shelf a\nbox {name} 1 in a")
            self.assert_error(Clash, {"name": name}, glue, inner, around())
        inner = piece("shelf a\nbox k 1 in a\nbox t 1 in k\nbox x 1 in a")
        self.assert_error(Clash, {"name": "t"}, glue, inner, around())
        self.assert_error(Unknown, {"name": "a"}, glue, inner, around({"b": "s"}))
        self.assert_error(Clash, {"name": "t"}, glue, piece(), around())

    def test_twelve_boxes(self):
        inner = Piece(boxes(8))
        outer = Surrounding(parse_world("shelf s\nbox p 1 in s\nbox q 1 in p\nbox r 1 in q\nbox t 1 in r"), {"d": "t"})
        found = glue(inner, outer)
        self.assert_same(len(found), 12)
        self.assert_same({found.holder(box) for box in NAMES[:8]}, {"t"})


class Marks(Case):
    """[60]: piece_mark and alike_everywhere"""

    def test_example(self):
        self.assert_answer(((("a", 4, (1, 3)), ("b", 3, (3,))), ((1, 2), (3, 2)), 4), piece_mark, piece())

    def test_marks(self):
        inner = piece(
            "shelf a\nshelf b\nshelf c\nbox k 3 in a nailed\nbox m 2 in a sealed\nbox n 1 in m\nbox t 2 in b\n"
            "box u 2 in b\nbox v 3 in b"
        )
        self.assert_answer((
            (("a", 6, (3,)), ("b", 7, (2, 2, 3)), ("c", 0, ())), ((2, 2), (3, 2)), 2,
        ), piece_mark, inner)
        # Only fixed boxes.
        self.assert_answer(((("a", 2, ()),), (), 1), piece_mark, piece("shelf a\nbox k 2 in a nailed"))
        self.assert_answer(((("d", 8, (1,) * 8),), ((1, 8),), 1), piece_mark, Piece(boxes(8)))

    def test_alike_everywhere(self):
        self.assert_answer(True, alike_everywhere, piece(), piece())
        # Other names, and fixed boxes somewhere else, make no difference.
        other = piece("shelf a\nshelf b\nbox e 3 in b\nbox f 2 in a\nbox g 1 in a\nbox h 1 in f")
        self.assert_answer(True, alike_everywhere, piece(), other)
        other = piece("shelf a\nshelf b\nbox e 3 in b\nbox f 2 in a\nbox g 1 in b\nbox h 1 in f")
        self.assert_answer(False, alike_everywhere, piece(), other)
        other = piece("shelf a\nshelf b\nbox e 3 in a\nbox f 2 in b\nbox g 1 in a\nbox h 1 in f")
        self.assert_answer(True, alike_everywhere, piece(), other)
        first = piece("shelf a\nbox k 2 in a nailed\nbox m 3 in a nailed")
        second = piece("shelf a\nbox k 4 in a nailed sealed\nbox m 1 in k")
        self.assert_answer(True, alike_everywhere, first, second)
        self.assert_answer(None, telling, first, second)

    def test_other_doors(self):
        for text in ["shelf a\nbox k 1 in a", "shelf a\nshelf c\nbox k 1 in a", "shelf a\nshelf b\nshelf c\nbox k 1 in a"]:
            for first, second in [(piece(), piece(text)), (piece(text), piece())]:
                self.assert_error(OtherDoors, {}, alike_everywhere, first, second)
                self.assert_error(OtherDoors, {}, telling, first, second)
                self.assert_error(OtherDoors, {}, is_telling, first, second, around())
                self.assert_error(OtherDoors, {}, is_telling, first, second, around({}))


# Pieces that differ in one part of their marks, and in none before it as telling looks at them.
UNLIKE = {
    "the count": [
        ("shelf a\nshelf b\nbox k 1 in a\nbox m 1 in b", "shelf a\nshelf b\nbox k 1 in a\nbox m 1 in a"),
        (SHOWN, SHOWN.replace("n 1 in m", "n 1 in m nailed")),
    ],
    "the free boxes of a weight": [
        ("shelf a\nbox k 1 in a\nbox m 1 in a", "shelf a\nbox k 1 in a\nbox m 1 in a nailed"),
        ("shelf a\nbox k 1 in a\nbox m 1 in a", "shelf a\nbox k 2 in a nailed"),
        ("shelf a\nbox k 5 in a", "shelf a\nbox k 7 in a"),
        ("shelf a\nbox k 5 in a sealed\nbox m 1 in k", "shelf a\nbox k 5 in a\nbox m 1 in k"),
    ],
    "the boxes on a door": [
        ("shelf a\nshelf b\nbox k 1 in a", "shelf a\nshelf b\nbox k 1 in b"),
        (
            "shelf a\nshelf b\nshelf c\nbox k 1 in b\nbox l 2 in b\nbox m 1 in b\nbox n 2 in b",
            "shelf a\nshelf b\nshelf c\nbox k 1 in b\nbox l 2 in c\nbox m 1 in b\nbox n 2 in c",
        ),
        ("shelf a\nbox f 5 in a nailed\nbox k 1 in a", "shelf a\nbox f 5 in a nailed\nbox k 1 in f"),
        (
            "shelf a\nbox k 5 in a nailed\nbox l 1 in a\nbox m 1 in a\nbox n 1 in k",
            "shelf a\nbox k 5 in a nailed\nbox l 1 in a\nbox m 1 in k\nbox n 1 in k",
        ),
    ],
    "the full weight of a door": [
        ("shelf a\nbox k 5 in a nailed", "shelf a\nbox k 7 in a nailed"),
        ("shelf a\nshelf b\nshelf c\nbox k 5 in b nailed", "shelf a\nshelf b\nshelf c\nbox k 5 in c nailed"),
        (
            "shelf a\nshelf b\nbox k 1000000 in a nailed\nbox m 1 in b", "shelf a\nshelf b\nbox k 999999 in a nailed\n"
            "box m 1 in b",
        ),
    ],
}


def slow_count(world):
    return len(slow.distances(world.yard, world.row))


class Telling(Case):
    """[61]: telling and is_telling"""

    def assert_told(self, first, second):
        found = telling(first, second)
        self.assert_answer(found, telling, first, second)
        self.assertIs(type(found), Surrounding)
        self.assert_answer(True, is_telling, first, second, found)
        self.assert_answer(True, is_telling, second, first, found)
        self.assertNotEqual(slow_count(glue(first, found)), slow_count(glue(second, found)))

    def test_each_difference_of_the_marks(self):
        for part, pairs in UNLIKE.items():
            for texts in pairs:
                with self.subTest(part=part, texts=texts):
                    first, second = piece(texts[0]), piece(texts[1])
                    self.assert_answer(False, alike_everywhere, first, second)
                    self.assert_told(first, second)
                    self.assert_told(second, first)

    def test_names_that_are_taken(self):
        # The boxes have the names that come to mind first.
        names = [f"z{at}" for at in range(8)]
        for at, (first, second) in enumerate(itertools.chain(*UNLIKE.values())):
            for text in (first, second):
                self.assert_same("z0" in text, False)
            used = sorted({line.split()[1] for text in (first, second) for line in text.split("\n") if line[:3] == "box"})
            new = dict(zip(used, names[at % 3:]))
            pieces = [piece("\n".join(
                " ".join(new.get(word, word) for word in line.split(" ")) for line in text.split("\n")
            )) for text in (first, second)]
            self.assert_told(*pieces)

    def test_three_doors_and_eight_boxes(self):
        first = Piece(World(Yard(list("def"), {name: 1 for name in NAMES[:8]}), dict(zip(NAMES, "ddddefff"))))
        second = Piece(World(Yard(list("def"), {name: 1 for name in NAMES[:8]}), dict(zip(NAMES, "dddeffff"))))
        self.assert_answer(False, alike_everywhere, first, second)
        self.assert_told(first, second)
        heavy = [
            Piece(World(Yard(list("def"), {name: weight for name in NAMES[:8]}, nailed=NAMES[:8]), dict(zip(
                NAMES, "ddddefff"
            )))) for weight in (1000000, 999999)
        ]
        self.assert_told(heavy[0], heavy[1])
        self.assert_told(heavy[1], heavy[0])

    def test_what_tells_nothing(self):
        first, second = piece("shelf a\nbox k 5 in a"), piece("shelf a\nbox k 7 in a")
        for text, places, wanted in [
            ("shelf s\nshelf t\nbox x 5 in t", {"a": "s"}, True), ("shelf s\nshelf t\nbox x 7 in t", {"a": "s"}, True),
            ("shelf s\nshelf t\nbox x 6 in t", {"a": "s"}, False), ("shelf s\nbox x 5 in s", {"a": "s"}, False),
            ("shelf s\nshelf t\nbox x 1 in s\nbox y 6 in t", {"a": "x"}, True),
            ("shelf s\nshelf t\nbox x 1 in s\nbox y 6 in t nailed", {"a": "x"}, False),
            ("shelf s sealed\nshelf t\nbox x 5 in t", {"a": "s"}, False),
            ("shelf s\nshelf t\nbox x 5 in t", {}, False), ("shelf s\nshelf t\nbox x 5 in t", {"b": "s"}, False),
            ("shelf s\nshelf t\nbox k 5 in t", {"a": "s"}, False), ("shelf k\nshelf t\nbox x 5 in t", {"a": "k"}, False),
            ("shelf a\nshelf t\nbox x 5 in t", {"a": "a", "k": "t"}, True),
        ]:
            for one, two in ((first, second), (second, first)):
                self.assert_answer(wanted, is_telling, one, two, around(places, text))
        self.assert_answer(False, is_telling, first, first, around({"a": "s"}, "shelf s\nshelf t\nbox x 5 in t"))

    def test_a_piece_that_alone_cannot_be_glued(self):
        first, second = piece("shelf a\nbox k 5 in a"), piece("shelf a\nbox m 7 in a")
        outer = around({"a": "s"}, "shelf s\nshelf t\nbox k 5 in t")
        self.assert_answer(False, is_telling, first, second, outer)
        self.assert_answer(False, is_telling, second, first, outer)

    def test_later_changes(self):
        found = telling(piece("shelf a\nbox k 5 in a"), piece("shelf a\nbox k 7 in a"))
        found.places().clear()
        self.assert_same(list(found.places()), ["a"])


class AllTogether(Case):
    """Small pieces in many surroundings."""

    def pieces(self, doors):
        chance = random.Random(3)
        found = []
        while len(found) < 24:
            names = list("klm")[:chance.randint(1, 3)]
            yard = Yard(
                doors, {name: chance.randint(1, 2) for name in names},
                nailed=[name for name in names if chance.random() < 0.3],
                sealed=[name for name in names if chance.random() < 0.2],
            )
            found.append(Piece(World.from_row(yard, chance.choice(slow.all_rows(yard)))))
        return found

    def surroundings(self, doors):
        texts = [
            "shelf s\nshelf t\nbox x 1 in t", "shelf s\nshelf t\nbox x 2 in s", "shelf s\nshelf t\nbox x 1 in s\nbox y 2 in t",
            "shelf s\nshelf t\nbox x 1 in s\nbox y 3 in t", "shelf s sealed\nbox x 1 in s", "shelf s\nbox x 3 in s nailed",
            "shelf s\nbox x 1 in s sealed\nbox y 1 in s", "shelf s\nshelf t\nbox x 1 in s\nbox y 1 in x\nbox z 4 in t",
        ]
        for text in texts:
            world = parse_world(text)
            for places in itertools.product(world.yard.holders, repeat=len(doors)):
                yield Surrounding(world, dict(zip(doors, places)))

    def test_small_pieces(self):
        for doors in (["a"], ["a", "b"]):
            pieces = self.pieces(doors)
            outers = list(self.surroundings(doors))
            counts = [[slow_count(self.slow_glue(inner, outer)) for outer in outers] for inner in pieces]
            for at, first in enumerate(pieces):
                for other, second in enumerate(pieces[:at + 1]):
                    self.check(first, second, list(zip(outers, counts[at], counts[other])))

    def check(self, first, second, rows):
        same = alike_everywhere(first, second)
        self.assert_same(same, piece_mark(first) == piece_mark(second))
        found = telling(first, second)
        self.assert_same(found is None, same)
        if not same:
            self.assertTrue(is_telling(first, second, found))
            counts = [slow_count(self.slow_glue(inner, found)) for inner in (first, second)]
            self.assertNotEqual(counts[0], counts[1])
        for outer, many, others in rows[::7]:
            self.assert_same(is_telling(first, second, outer), many != others)
        if same:
            self.assert_same([outer.places() for outer, many, others in rows if many != others], [])

    def slow_glue(self, inner, outer):
        """The glued world, by its text."""
        lines = [line.split() for line in format_world(outer.world).split("\n")]
        for words in [line.split() for line in format_world(inner.world).split("\n")]:
            if words[0] == "box":
                if words[4] in inner.doors:
                    words[4] = outer.place(words[4])
                lines.append(words)
        lines.sort(key=lambda words: (words[0] == "box", words[1]))
        found = parse_world("\n".join(" ".join(words) for words in lines))
        self.assert_same(glue(inner, outer), found)
        self.assert_same(count(found), slow_count(found))
        return found


if __name__ == "__main__":
    unittest.main()
