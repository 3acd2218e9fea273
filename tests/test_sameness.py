"""nestweigh/sameness.py: points [3], [4], [5] and [53] to [56]."""

import itertools
import random
import unittest
from math import factorial

from nestweigh.classes import count, listed, world_at
from nestweigh.errors import Unknown
from nestweigh.passage import comes
from nestweigh.renamings import Renaming, identity, rename_world
from nestweigh.sameness import (
    alike,
    card,
    class_alike,
    class_difference,
    class_form,
    class_likeness,
    class_likenesses,
    difference,
    form,
    is_class_likeness,
    is_likeness,
    kind,
    likeness,
    likenesses,
)
from nestweigh.texts import parse_world
from nestweigh.worlds import World
from nestweigh.yards import Yard
from tests import slow
from tests.support import Case

SHOWN = "shelf a\nshelf b\nbox k 3 in a\nbox m 2 in b\nbox n 1 in m\nbox t 1 in a"
# SHOWN with other names, and with the boxes listed in another order.
OTHER = "shelf x\nshelf y\nbox c 2 in x\nbox d 3 in y\nbox e 1 in y\nbox f 1 in c"
# f lies under a seal, x is nailed; q, r and s are free and hold things.
TOWER = (
    "shelf a\nshelf b\nshelf c sealed\nbox f 1 in c\nbox q 3 in y\nbox r 3 in z\nbox s 4 in a\nbox u 1 in q\n"
    "box v 1 in r\nbox w 1 in b\nbox x 2 in y nailed sealed\nbox y 3 in a\nbox z 5 in b"
)
NAMES = [f"b{number:02}" for number in range(12)]
NO_HOLDERS = ["z", "", "K", "no name", "aa"]


def shown():
    return parse_world(SHOWN)


def other():
    return parse_world(OTHER)


def tower():
    return parse_world(TOWER)


def twelve(row, names=NAMES, **more):
    """Twelve boxes that are all of one own weight, on shelves with one letter."""
    return World.from_row(Yard(list("stuv"), {name: 1 for name in names}, **more), row)


def other_names(world, chance):
    """The world with other names, some of which it may have itself."""
    names = list(world.yard.holders)
    fresh = chance.sample([name + "q" for name in names] + names, len(names))
    return rename_world(world, Renaming(dict(zip(names, fresh))))


class Kinds(Case):
    """[53]: kind and form"""

    def test_example(self):
        self.assert_answer("#[1[],3[]] #[2[1[]]]", form, shown())

    def test_kinds(self):
        for name, wanted in {
            "a": "#[3[2ns[],3[1[]]],4[]]", "b": "#[1[],5[3[1[]]]]", "c": "#s[1[]]", "f": "1[]", "q": "3[1[]]",
            "r": "3[1[]]", "s": "4[]", "u": "1[]", "w": "1[]", "x": "2ns[]", "y": "3[2ns[],3[1[]]]", "z": "5[3[1[]]]",
        }.items():
            self.assert_answer(wanted, kind, tower(), name)
        self.assert_answer("#[1[],5[3[1[]]]] #[3[2ns[],3[1[]]],4[]] #s[1[]]", form, tower())

    def test_marks(self):
        text = "shelf a sealed\nbox k 10 in a nailed\nbox m 9 in a sealed\nbox n 9 in m\nbox t 100 in a nailed sealed"
        world = parse_world(text)
        self.assert_answer("#s[100ns[],10n[],9s[9[]]]", kind, world, "a")
        self.assert_answer("10n[]", kind, world, "k")
        self.assert_answer("9s[9[]]", kind, world, "m")

    def test_kinds_are_sorted_as_strings(self):
        world = parse_world("shelf a\nshelf b\nbox k 10 in a\nbox m 9 in a\nbox n 100 in a\nbox t 1 in a nailed")
        self.assert_answer("#[100[],10[],1n[],9[]]", kind, world, "a")
        self.assert_answer("#[100[],10[],1n[],9[]] #[]", form, world)
        self.assert_answer("#[1[]] #[]", form, parse_world("shelf a\nshelf b\nbox k 1 in b"))
        self.assert_answer("#[1[]] #s[]", form, parse_world("shelf a sealed\nshelf b\nbox k 1 in b"))

    def test_great_weights_and_twelve_deep(self):
        world = World(Yard(["s"], {name: 10**9 for name in NAMES}), dict(zip(NAMES, ["s"] + NAMES)))
        self.assert_answer("#[" + "1000000000[" * 12 + "]" * 13, form, world)

    def test_unknown(self):
        for name in NO_HOLDERS:
            self.assert_error(Unknown, {"name": name}, kind, shown(), name)
            self.assert_error(Unknown, {"name": name}, card, shown(), name)


class Cards(Case):
    """[55]: card and class_form"""

    def test_example(self):
        self.assert_answer("#{1,3}[] #{3}[] 1{}[] 1{}[] 2{1}[] 3{}[]", class_form, shown())

    def test_cards(self):
        for name, wanted in {
            "a": "#{4,9}[]", "b": "#{1,9}[]", "c": "#s{1}[1{}[]]", "f": "1{}[]", "q": "3{1}[]", "s": "4{}[]",
            "x": "2ns{}[]", "y": "3{2,4}[2ns{}[]]", "z": "5{4}[]", "u": "1{}[]",
        }.items():
            self.assert_answer(wanted, card, tower(), name)
        wanted = "#s{1}[1{}[]] #{1,9}[] #{4,9}[] 1{}[] 1{}[] 1{}[] 3{1}[] 3{1}[] 3{2,4}[2ns{}[]] 4{}[] 5{4}[]"
        self.assert_answer(wanted, class_form, tower())

    def test_fixed_boxes_within_each_other(self):
        world = parse_world(
            "shelf a sealed\nbox k 9 in a sealed\nbox l 10 in k nailed sealed\nbox m 2 in k\nbox n 1 in l\nbox o 1 in m\n"
            "box p 2 in m nailed\nbox q 100 in a"
        )
        self.assert_answer("10ns{1}[1{}[]]", card, world, "l")
        self.assert_answer("2{1,2}[2n{}[]]", card, world, "m")
        self.assert_answer("9s{5,11}[10ns{1}[1{}[]],2{1,2}[2n{}[]]]", card, world, "k")
        self.assert_answer("#s{25,100}[100{}[],9s{5,11}[10ns{1}[1{}[]],2{1,2}[2n{}[]]]]", card, world, "a")
        self.assert_answer(card(world, "a") + " 1{}[]", class_form, world)

    def test_bags_are_ascending_as_numbers_and_cards_as_strings(self):
        world = parse_world(
            "shelf a\nbox k 10 in a nailed\nbox m 9 in a nailed\nbox n 100 in a nailed\nbox t 9 in a nailed sealed"
        )
        self.assert_answer("#{9,9,10,100}[100n{}[],10n{}[],9ns{}[],9n{}[]]", card, world, "a")
        self.assert_answer("#{9,9,10,100}[100n{}[],10n{}[],9ns{}[],9n{}[]]", class_form, world)

    def test_one_form_for_the_whole_class(self):
        for world in listed(tower()):
            self.assert_same(class_form(world), class_form(tower()))
        self.assert_same(len({form(world) for world in listed(tower())}) > 1, True)


class Likenesses(Case):
    """[54]: alike, likeness, is_likeness, likenesses"""

    def assert_likeness(self, first, second):
        found = likeness(first, second)
        self.assert_answer(found, likeness, first, second)
        self.assertIs(type(found), Renaming)
        self.assert_answer(True, alike, first, second)
        self.assert_answer(True, is_likeness, first, second, found)
        self.assert_same(list(found), list(first.yard.holders))
        self.assert_same(rename_world(first, found), second)
        self.assert_answer(None, difference, first, second)
        self.assertGreater(likenesses(first, second), 0)
        return found

    def assert_unlike(self, first, second):
        for one, two in ((first, second), (second, first)):
            self.assert_answer(False, alike, one, two)
            self.assert_answer(None, likeness, one, two)
            self.assert_answer(0, likenesses, one, two)

    def test_one_world(self):
        for world in (shown(), tower(), twelve("ssstttuuuvvv")):
            self.assert_likeness(world, world)
            self.assert_answer(True, is_likeness, world, world, identity(world.yard.holders))

    def test_other_names(self):
        found = self.assert_likeness(shown(), other())
        self.assert_same(found.table(), {"a": "y", "b": "x", "k": "d", "m": "c", "n": "f", "t": "e"})
        self.assert_answer(1, likenesses, shown(), other())

    def test_worlds_of_one_yard(self):
        # Within a class a world need not be like another one.
        worlds = listed(shown())
        self.assert_likeness(worlds[1], worlds[0])
        self.assert_unlike(worlds[1], worlds[3])
        first = worlds[1]
        self.assert_likeness(first, first)
        world = parse_world("shelf a\nshelf b\nbox k 1 in a\nbox m 1 in b\nbox n 2 in b")
        self.assert_likeness(world, world.moved("k", "b").moved("m", "a"))
        self.assert_likeness(world, world.moved("k", "b").moved("m", "a").moved("n", "b"))
        self.assert_unlike(world, world.moved("k", "b"))

    def test_common_names_in_other_places(self):
        first = parse_world("shelf a\nshelf b\nbox k 3 in a\nbox m 3 in k")
        second = parse_world("shelf k\nshelf m\nbox a 3 in b\nbox b 3 in m")
        found = self.assert_likeness(first, second)
        self.assert_same(found.table(), {"a": "m", "b": "k", "k": "b", "m": "a"})

    def test_twelve_boxes_of_one_kind(self):
        for row, wanted in [
            ("s" * 12, factorial(12) * 6), ("ssstttuuuvvv", 24 * 6**4), ("s" * 11 + "t", factorial(11) * 2),
            ("sssssstttttt", 2 * 2 * factorial(6)**2),
        ]:
            self.assert_answer(wanted, likenesses, twelve(row), twelve(row[::-1]))
            self.assert_likeness(twelve(row), twelve(row[::-1]))
        one = World(Yard(["s"], {name: 7 for name in NAMES}), {name: "s" for name in NAMES})
        self.assert_answer(479001600, likenesses, one, one)
        self.assert_answer(factorial(12), class_likenesses, one, one)

    def test_products_in_depth(self):
        world = parse_world(
            "shelf a\nshelf b\nbox k 5 in a\nbox l 5 in a\nbox m 1 in k\nbox n 1 in k\nbox o 1 in l\nbox p 1 in l\n"
            "box q 1 in a"
        )
        self.assert_answer(8, likenesses, world, world)
        self.assert_answer(12, likenesses, world.moved("q", "k"), world.moved("q", "l"))

    def test_what_is_no_likeness(self):
        right = likeness(shown(), other())
        table = right.table()
        self.assert_answer(True, is_likeness, shown(), other(), right)
        self.assert_answer(False, is_likeness, other(), shown(), right)
        self.assert_answer(True, is_likeness, other(), shown(), ~right)
        for name in table:
            self.assert_answer(False, is_likeness, shown(), other(), Renaming({**table, name: "zz"}))
            less = {old: new for old, new in table.items() if old != name}
            self.assert_answer(False, is_likeness, shown(), other(), Renaming(less))
        self.assert_answer(False, is_likeness, shown(), other(), Renaming({**table, "zz": "zz"}))
        self.assert_answer(False, is_likeness, shown(), other(), Renaming({}))
        swapped = {**table, "n": table["t"], "t": table["n"]}
        self.assert_answer(False, is_likeness, shown(), other(), Renaming(swapped))
        self.assert_answer(False, is_likeness, shown(), other(), Renaming({**table, "zz": "a"}))

    def test_differences(self):
        self.assert_answer(("#[1[],2[1[]]]", 0, 1), difference, shown(), parse_world(OTHER.replace("e 1 in y", "e 1 in x")))
        first = parse_world("shelf a\nbox k 1 in a\nbox l 1 in a\nbox m 2 in a")
        second = parse_world("shelf a\nbox k 1 in a\nbox l 2 in a\nbox m 2 in a")
        self.assert_answer(("#[1[],1[],2[]]", 1, 0), difference, first, second)
        self.assert_answer(("#[1[],1[],2[]]", 0, 1), difference, second, first)
        # The least text as a string, whichever world has it.
        for old, new, wanted in [
            ("shelf a", "shelf a sealed", ("#[1[],3[]]", 1, 0)), ("k 3 in a", "k 3 in b", ("#[1[],3[]]", 1, 0)),
            ("shelf b", "shelf b sealed", ("#[2[1[]]]", 1, 0)), ("t 1 in a", "t 1 in a nailed", ("#[1[],3[]]", 1, 0)),
            ("n 1 in m", "n 1 in b", ("#[1[],2[]]", 0, 1)),
        ]:
            changed = parse_world(SHOWN.replace(old, new))
            self.assert_answer(wanted, difference, shown(), changed)
            self.assert_answer((wanted[0], wanted[2], wanted[1]), difference, changed, shown())
            self.assert_unlike(shown(), changed)

    def test_all_kinds_of_boxes_are_counted(self):
        first = parse_world("shelf a\nshelf b\nbox k 1 in a\nbox l 1 in a")
        second = parse_world("shelf a\nshelf b\nbox k 1 in a\nbox l 1 in k")
        self.assert_answer(("#[1[1[]]]", 0, 1), difference, first, second)
        self.assert_answer(("#[1[],1[]]", 1, 0), difference, first, parse_world("shelf a\nshelf b\nbox k 2 in a"))


class ClassLikenesses(Case):
    """[56]: class_alike, class_likeness, is_class_likeness, class_likenesses"""

    def assert_likeness(self, first, second):
        found = class_likeness(first, second)
        self.assert_answer(found, class_likeness, first, second)
        self.assertIs(type(found), Renaming)
        self.assert_answer(True, class_alike, first, second)
        self.assert_answer(True, is_class_likeness, first, second, found)
        self.assert_same(list(found), list(first.yard.holders))
        self.assertTrue(comes(second, rename_world(first, found)))
        self.assert_answer(None, class_difference, first, second)
        self.assertGreater(class_likenesses(first, second), 0)
        return found

    def assert_unlike(self, first, second):
        for one, two in ((first, second), (second, first)):
            self.assert_answer(False, class_alike, one, two)
            self.assert_answer(None, class_likeness, one, two)
            self.assert_answer(0, class_likenesses, one, two)

    def test_example(self):
        self.assert_answer(2, class_likenesses, shown(), shown())

    def test_worlds_of_one_class(self):
        for first in listed(shown()):
            for second in listed(shown()):
                self.assert_likeness(first, second)
                self.assert_answer(2, class_likenesses, first, second)
                self.assert_answer(True, is_class_likeness, first, second, identity(first.yard.holders))
                self.assert_same(is_likeness(first, second, identity(first.yard.holders)), first == second)

    def test_other_names(self):
        for first in listed(shown()):
            for second in listed(other()):
                found = self.assert_likeness(first, second)
                self.assert_same((found("a"), found("b")), ("y", "x"))

    def test_fixed_boxes_stay_where_they_are(self):
        world = parse_world("shelf a\nshelf b\nbox k 1 in a nailed\nbox l 1 in b\nbox m 1 in b\nbox n 1 in a")
        self.assert_likeness(world, world.moved("n", "b").moved("l", "a"))
        self.assert_unlike(world, world.moved("k", "b").moved("l", "a").moved("n", "a").moved("m", "a"))
        swapped = parse_world("shelf a\nshelf b\nbox k 1 in b nailed\nbox l 1 in a\nbox m 1 in a\nbox n 1 in b")
        found = self.assert_likeness(world, swapped)
        self.assert_same((found("a"), found("b"), found("k")), ("b", "a", "k"))
        self.assert_answer(6, class_likenesses, world, swapped)

    def test_what_hangs_together(self):
        # Two shelves with the same bag, one of which has the nailed box.
        first = parse_world("shelf a\nshelf b\nbox k 2 in a nailed\nbox l 2 in b\nbox m 1 in a\nbox n 1 in b nailed")
        second = parse_world("shelf a\nshelf b\nbox k 2 in a nailed\nbox l 2 in b\nbox m 1 in b\nbox n 1 in a nailed")
        self.assert_unlike(first, second)
        self.assert_answer(("#{1,2}[1n{}[],2n{}[]]", 0, 1), class_difference, first, second)

    def test_what_is_no_class_likeness(self):
        right = class_likeness(shown(), other())
        table = right.table()
        for name in table:
            self.assert_answer(False, is_class_likeness, shown(), other(), Renaming({**table, name: "zz"}))
            less = {old: new for old, new in table.items() if old != name}
            self.assert_answer(False, is_class_likeness, shown(), other(), Renaming(less))
        self.assert_answer(False, is_class_likeness, shown(), other(), Renaming({**table, "zz": "zz"}))
        self.assert_answer(False, is_class_likeness, shown(), other(), Renaming({}))
        swapped = {**table, "n": table["t"], "t": table["n"]}
        self.assert_answer(True, is_class_likeness, shown(), other(), Renaming(swapped))
        swapped = {**table, "a": table["b"], "b": table["a"]}
        self.assert_answer(False, is_class_likeness, shown(), other(), Renaming(swapped))
        # The first world becomes one of the second yard, but not of the class.
        self.assert_answer(False, is_class_likeness, shown().moved("t", "b"), other(), right)
        self.assert_answer(True, is_class_likeness, shown(), shown(), identity(shown().yard.holders))
        self.assert_answer(False, is_class_likeness, shown(), other(), identity(shown().yard.holders))

    def test_differences(self):
        for old, new, wanted in [
            ("shelf a", "shelf a sealed", ("#s{1,3}[1{}[],3{}[]]", 0, 1)), ("k 3 in a", "k 3 in b", ("#{1,3}[]", 1, 0)),
            ("n 1 in m", "n 1 in b", ("#{1,2}[]", 0, 1)), ("t 1 in a", "t 1 in a nailed", ("#{1,3}[1n{}[]]", 0, 1)),
            ("t 1 in a", "t 1 in a sealed", ("1s{}[]", 0, 1)), ("k 3 in a", "k 3 in a sealed", ("3s{}[]", 0, 1)),
        ]:
            changed = parse_world(SHOWN.replace(old, new))
            self.assert_answer(wanted, class_difference, shown(), changed)
            self.assert_answer((wanted[0], wanted[2], wanted[1]), class_difference, changed, shown())
            self.assert_unlike(shown(), changed)

    def test_only_shelves_and_free_boxes_are_counted(self):
        # The card 1{}[] occurs once more among the fixed boxes of the second world.
        first = parse_world("shelf a\nshelf b\nbox k 1 in a\nbox l 5 in b")
        second = parse_world("shelf a\nshelf b sealed\nbox k 1 in a\nbox l 1 in b")
        self.assert_answer(("#s{1}[1{}[]]", 0, 1), class_difference, first, second)
        first = parse_world("shelf a sealed\nbox k 5 in a\nbox l 1 in k")
        second = parse_world("shelf a sealed\nbox k 5 in a\nbox l 1 in k nailed")
        self.assert_answer(("#s{6}[5{1}[1n{}[]]]", 0, 1), class_difference, first, second)
        self.assert_answer(("#s{6}[5{1}[1n{}[]]]", 1, 0), class_difference, second, first)

    def test_twelve_boxes_of_one_kind(self):
        for row, ways in [("s" * 12, 6), ("ssstttuuuvvv", 24), ("ssssttttuuuu", 6)]:
            self.assert_answer(factorial(12) * ways, class_likenesses, twelve(row), twelve(row[::-1]))
            self.assert_likeness(twelve(row), twelve(row[::-1]))
        world = twelve("ssstttuuuvvv", nailed=NAMES)
        self.assert_answer(24 * 6**4, class_likenesses, world, world)
        self.assert_likeness(twelve("ssstttuuuvvv"), world_at(twelve("ssstttuuuvvv"), 200000))

    def test_great_classes(self):
        heavy, light = [f"h{at}" for at in range(6)], [f"l{at}" for at in range(6)]
        yard = Yard(["s", "t"], {**{name: 9 for name in heavy}, **{name: 1 for name in light}})
        world = World(yard, {**{name: "st"[at % 2] for at, name in enumerate(heavy)}, **dict(zip(light, heavy))})
        self.assert_answer(factorial(6)**2 * 2, class_likenesses, world, world_at(world, count(world) // 3))
        self.assert_likeness(world, world_at(world, count(world) // 3))
        self.assert_answer(factorial(3)**2 * 2, likenesses, world, world)


def slow_kind(yard, row, name):
    inner = sorted(slow_kind(yard, row, box) for box, holder in zip(yard.boxes, row) if holder == name)
    marks = ("n" if name in yard.nailed else "") + ("s" if name in yard.sealed else "")
    return (str(yard.own(name)) if name in yard.boxes else "#") + marks + "[" + ",".join(inner) + "]"


class AllTogether(Case):
    """Against all renamings."""

    def worlds(self):
        chance = random.Random(5)
        texts = [
            "shelf a\nshelf b\nbox k 1\nbox m 1", "shelf a\nshelf b\nbox k 1\nbox m 1\nbox n 1",
            "shelf a\nshelf b sealed\nbox k 1\nbox m 1\nbox n 1", "shelf a\nshelf b\nbox k 1\nbox m 1 nailed\nbox n 1",
            "shelf a\nbox k 1\nbox m 1\nbox n 1 nailed\nbox t 1", "shelf a\nshelf b\nbox k 2\nbox m 1\nbox n 1\nbox t 1",
            "shelf a\nshelf b\nbox k 1 sealed\nbox m 1 sealed\nbox n 1\nbox t 1",
        ]
        for text in texts:
            world = parse_world("\n".join(
                line.replace(line.split()[2], line.split()[2] + " in a", 1) if line.startswith("box") else line
                for line in text.split("\n")
            ))
            rows = slow.all_rows(world.yard)
            for row in chance.sample(rows, min(len(rows), 6)):
                first = World.from_row(world.yard, row)
                near = World.from_row(world.yard, chance.choice(rows))
                same = World.from_row(world.yard, chance.choice(list(slow.distances(world.yard, row))))
                yield first, near
                yield first, other_names(same, chance)
                yield other_names(first, chance), first

    def test_small_worlds(self):
        for first, second in self.worlds():
            self.check(first, second)

    def check(self, first, second):
        ours, theirs = first.yard, second.yard
        rows = slow.distances(theirs, second.row)
        like, class_like = 0, 0
        for names in itertools.permutations(theirs.holders, len(ours.holders)):
            new = dict(zip(ours.holders, names))
            table = {new[box]: new[holder] for box, holder in zip(ours.boxes, first.row)}
            is_yard = (
                sorted(new[shelf] for shelf in ours.shelves) == list(theirs.shelves)
                and all(ours.own(box) == theirs.own(new[box]) for box in ours.boxes)
                and {new[box] for box in ours.nailed} == set(theirs.nailed)
                and {new[name] for name in ours.sealed} == set(theirs.sealed)
            )
            row = tuple(table[box] for box in theirs.boxes) if is_yard else None
            like += row == second.row
            class_like += row in rows
            if like + class_like <= 2 or is_yard:
                self.assert_same(is_likeness(first, second, Renaming(new)), row == second.row)
                self.assert_same(is_class_likeness(first, second, Renaming(new)), row in rows)
        self.assert_same(likenesses(first, second), like)
        self.assert_same(class_likenesses(first, second), class_like)
        self.assert_same(alike(first, second), like > 0)
        self.assert_same(class_alike(first, second), class_like > 0)
        self.assert_same(likeness(first, second) is not None, like > 0)
        self.assert_same(class_likeness(first, second) is not None, class_like > 0)
        if like > 0:
            self.assertTrue(is_likeness(first, second, likeness(first, second)))
        if class_like > 0:
            self.assertTrue(is_class_likeness(first, second, class_likeness(first, second)))
        self.check_differences(first, second)

    def check_differences(self, first, second):
        kinds = [[slow_kind(world.yard, world.row, name) for name in world.yard.holders] for world in (first, second)]
        cards = [class_form(world).split(" ") for world in (first, second)]
        for call, (ours, theirs) in ((difference, kinds), (class_difference, cards)):
            unlike = sorted(text for text in set(ours + theirs) if ours.count(text) != theirs.count(text))
            wanted = (unlike[0], ours.count(unlike[0]), theirs.count(unlike[0])) if unlike else None
            self.assert_same(call(first, second), wanted)

    def test_the_order_of_the_names_does_not_matter(self):
        yard = Yard(["b", "a"], {"t": 1, "n": 1, "m": 2, "k": 3})
        again = World(yard, {"t": "a", "n": "m", "m": "b", "k": "a"})
        for call in (likeness, class_likeness):
            self.assert_same(call(again, other()), call(shown(), other()))
            self.assert_same(call(other(), again), call(other(), shown()))


if __name__ == "__main__":
    unittest.main()
