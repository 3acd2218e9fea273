"""nestweigh/texts.py: points [14] and [15], with [3] and [6]."""

import itertools
import unittest

from nestweigh.errors import BadText
from nestweigh.texts import format_world, format_yard, parse_world, parse_yard
from nestweigh.worlds import World
from nestweigh.yards import Yard
from tests.support import Case

SHOWN = "shelf a\nshelf b\nbox k 3 in a\nbox m 2 in b\nbox n 1 in m\nbox t 1 in a"
SHOWN_YARD = "shelf a\nshelf b\nbox k 3\nbox m 2\nbox n 1\nbox t 1"


def shown():
    yard = Yard(["a", "b"], {"k": 3, "m": 2, "n": 1, "t": 1})
    return World(yard, {"k": "a", "m": "b", "n": "m", "t": "a"})


class Formatting(Case):
    """[14]"""

    def test_the_world_of_the_document(self):
        self.assert_answer(SHOWN, format_world, shown())
        self.assert_answer(SHOWN_YARD, format_yard, shown().yard)

    def test_nails_and_seals(self):
        yard = Yard(
            ["s", "r"], {"d": 10, "c": 1000000000, "b": 2, "e": 5}, nailed=["c", "b"], sealed=["s", "d", "c"]
        )
        self.assert_answer(
            "shelf r\nshelf s sealed\nbox b 2 nailed\nbox c 1000000000 nailed sealed\nbox d 10 sealed\nbox e 5",
            format_yard, yard,
        )
        self.assert_answer(
            "shelf r\nshelf s sealed\nbox b 2 in c nailed\nbox c 1000000000 in d nailed sealed\n"
            "box d 10 in s sealed\nbox e 5 in r",
            format_world, World(yard, {"b": "c", "c": "d", "d": "s", "e": "r"}),
        )

    def test_the_least_yard(self):
        yard = Yard(["a"], {"b": 1})
        self.assert_answer("shelf a\nbox b 1", format_yard, yard)
        self.assert_answer("shelf a\nbox b 1 in a", format_world, World(yard, {"b": "a"}))

    def test_lines_ascend_by_name_and_shelves_go_first(self):
        yard = Yard(["z1", "z", "y"], {"b": 1, "a": 1, "a1": 1})
        self.assert_answer("shelf y\nshelf z\nshelf z1\nbox a 1\nbox a1 1\nbox b 1", format_yard, yard)


class Reading(Case):
    """[15]: what is read"""

    def test_the_world_of_the_document(self):
        self.assert_answer(shown(), parse_world, SHOWN)
        self.assert_answer(shown().yard, parse_yard, SHOWN_YARD)

    def test_nails_and_seals(self):
        world = parse_world(
            "shelf r sealed\nshelf s\nbox b 7 in c nailed\nbox c 8 in s nailed sealed\nbox d 9 in b sealed"
        )
        self.assert_same(world.row, ("c", "s", "b"))
        self.assert_same(world.yard.nailed, ("b", "c"))
        self.assert_same(world.yard.sealed, ("c", "d", "r"))
        self.assert_same([world.yard.own(box) for box in world], [7, 8, 9])
        yard = parse_yard("shelf r sealed\nshelf s\nbox b 7 nailed\nbox c 8 nailed sealed\nbox d 9 sealed")
        self.assertTrue(yard == world.yard)

    def test_names_that_are_fixed_words(self):
        text = (
            "shelf shelf sealed\nbox box 1 in in\nbox in 2 in sealed\n"
            "box nailed 3 in shelf\nbox sealed 4 in shelf sealed"
        )
        world = parse_world(text)
        self.assert_same(world.table(), {"box": "in", "in": "sealed", "nailed": "shelf", "sealed": "shelf"})
        self.assert_answer(text, format_world, world)

    def test_names_are_no_marks(self):
        yard = parse_yard("shelf nailed\nshelf sealed\nbox b 1\nbox c 1")
        self.assert_same((yard.shelves, yard.nailed, yard.sealed), (("nailed", "sealed"), (), ()))
        yard = parse_yard("shelf a\nbox nailed 1\nbox sealed 1")
        self.assert_same((yard.boxes, yard.nailed, yard.sealed), (("nailed", "sealed"), (), ()))
        world = parse_world("shelf nailed\nshelf sealed\nbox b 1 in nailed\nbox c 1 in sealed")
        self.assert_same((world.row, world.yard.nailed, world.yard.sealed), (("nailed", "sealed"), (), ()))

    def test_the_greatest_yard(self):
        shelves = "shelf a\nshelf b\nshelf c\nshelf d\n"
        names = [f"x{letter}" for letter in "abcdefghijkl"]
        self.assert_same(parse_yard(shelves + "\n".join([f"box {name} 1" for name in names])).boxes, tuple(names))
        deep = [f"box {name} 1000000000 in {above}" for name, above in zip(names, ["d"] + names)]
        self.assert_same(parse_world(shelves + "\n".join(deep)).row, tuple(["d"] + names[:11]))

    def test_holders_may_stand_in_later_lines(self):
        self.assert_same(parse_world("shelf z\nbox a 1 in b\nbox b 1 in c\nbox c 1 in z").row, ("b", "c", "z"))

    def test_a_box_may_be_less_than_the_shelves(self):
        self.assert_same(parse_yard("shelf m\nshelf n\nbox a 1\nbox z 1").holders, ("a", "m", "n", "z"))

    def test_reading_what_was_written(self):
        for boxes, deep, nail, seal in itertools.product(range(1, 13), (0, 1), range(3), range(3)):
            names = [f"b{number}" for number in range(boxes)]
            yard = Yard(
                ["s", "a"], {name: 10**at % 999999937 for at, name in enumerate(names)},
                nailed=names[nail::3], sealed=names[seal::2] + ["a"],
            )
            self.assertTrue(parse_yard(format_yard(yard)) == yard)
            places = ["s"] + names if deep else ["a", "s"] * 6
            world = World(yard, dict(zip(names, places)))
            self.assertTrue(parse_world(format_world(world)) == world)


class Faults(Case):
    """[15]: the faults"""

    def assert_fault(self, line, fault, call, text):
        self.assert_error(BadText, {"line": line, "fault": fault}, call, text)

    def test_words_of_any_line(self):
        for line in [
            "", " ", "shelf", "box", "Shelf c", "SHELF c", "shelves c", "sealed", "then", "a", " shelf c", "shelf c ",
            "shelf  c", "shelf c  sealed", "shelf c sealed ", "shelf c nailed", "shelf c sealed sealed",
            "shelf c Sealed", "shelf c d", "shelf c 1", "shelf c in b", "box c", " box c 1", "in", "#",
        ]:
            for call in (parse_yard, parse_world):
                self.assert_fault(2, "words", call, f"shelf a\n{line}\nbox k 1")
                self.assert_fault(1, "words", call, line)
                self.assert_fault(1, "words", call, f"{line}\nx\ny")

    def test_words_of_the_lines_of_boxes(self):
        ends = [" ", " nailed ", " sealed nailed", " nailed nailed", " sealed sealed", " nailed sealed sealed"]
        for end in ends + [" Nailed", " x", " nailed x", "  nailed", "  sealed", " nailed  sealed", " nailed sealed "]:
            self.assert_fault(2, "words", parse_yard, "shelf a\nbox k 1" + end)
            self.assert_fault(2, "words", parse_world, "shelf a\nbox k 1 in a" + end)
        for line in ["box  k 1", "box k  1", "boxes k 1", "Box k 1", "box k one 1"]:
            self.assert_fault(2, "words", parse_yard, "shelf a\n" + line)
        for line in ["box  k 1 in a", "box k  1 in a", "box k 1  in a", "box k 1 in  a", "box k 1 on a", "box k 1 In a",
                     "box k 1 in", "box k 1 a in", "box k 1 nailed in a", "box k 1 sealed"]:
            self.assert_fault(2, "words", parse_world, "shelf a\n" + line)

    def test_the_kinds_of_text_are_not_mixed(self):
        self.assert_fault(3, "words", parse_yard, SHOWN)
        self.assert_fault(3, "words", parse_world, SHOWN_YARD)
        self.assert_fault(3, "words", parse_yard, "shelf a\nbox k 1\nbox m 1 in a")
        self.assert_fault(3, "words", parse_world, "shelf a\nbox k 1 in a\nbox m 1")
        self.assert_fault(3, "words", parse_world, "shelf a\nbox k 1 in a\nbox m 1 nailed sealed")

    def test_the_empty_text_is_one_empty_line(self):
        self.assert_fault(1, "words", parse_yard, "")
        self.assert_fault(1, "words", parse_world, "")

    def test_newlines_make_empty_lines(self):
        self.assert_fault(7, "words", parse_yard, SHOWN_YARD + "\n")
        self.assert_fault(7, "words", parse_world, SHOWN + "\n")
        self.assert_fault(1, "words", parse_yard, "\n" + SHOWN_YARD)
        self.assert_fault(2, "words", parse_world, "shelf a\n\nbox k 1 in a")
        self.assert_fault(1, "words", parse_world, "\n")

    def test_names(self):
        for name in ["", "A", "0", "a_b", "abcdefghi", "1a", "-", "aA", "x" * 5000]:
            for call in (parse_yard, parse_world):
                self.assert_fault(1, "name", call, f"shelf {name}\nx")
                self.assert_fault(2, "name", call, f"shelf a\nshelf {name} sealed\nx")
            self.assert_fault(3, "name", parse_yard, f"shelf a\nbox b 1\nbox {name} 1 nailed")
            self.assert_fault(2, "name", parse_world, f"shelf a\nbox {name} 1 in a")

    def test_weights(self):
        for weight in ["", "0", "01", "00", "-1", "+1", "1000000001", "9999999999", "10000000000", "01000000000",
                       "0000000001", "1_0", "1.0", "x", "1x", "x1", "1e3", "one", "in", "1" * 5000, "0" * 11]:
            self.assert_fault(3, "weight", parse_yard, f"shelf a\nbox b 1\nbox c {weight}\nx")
            self.assert_fault(2, "weight", parse_world, f"shelf a\nbox b {weight} in a sealed")
        for weight in ["1", "9", "10", "999999999", "1000000000"]:
            self.assert_same(parse_yard(f"shelf a\nbox b {weight}").own("b"), int(weight))

    def test_the_order_of_lines(self):
        for call, end in [(parse_yard, ""), (parse_world, " in a")]:
            self.assert_fault(2, "order", call, f"shelf b\nshelf a\nbox k 1{end}")
            self.assert_fault(2, "order", call, f"shelf a\nshelf a\nbox k 1{end}")
            self.assert_fault(4, "order", call, f"shelf a\nbox k 1{end}\nbox m 1{end}\nbox l 1{end}")
            self.assert_fault(3, "order", call, f"shelf a\nbox k 1{end}\nbox k 1{end}")
            self.assert_fault(3, "order", call, f"shelf a\nbox k1 1{end}\nbox k 1{end}")
            self.assert_fault(3, "order", call, f"shelf a\nbox k 1{end}\nshelf z")
            self.assert_fault(2, "order", call, f"box k 1{end}\nshelf z\nx")
            self.assert_fault(4, "order", call, f"shelf a\nbox k 1{end}\nbox m 1{end}\nshelf b")

    def test_a_first_box_may_be_less_than_the_last_shelf(self):
        self.assert_same(parse_world("shelf z\nbox a 1 in z").row, ("z",))

    def test_a_box_with_the_name_of_a_shelf(self):
        for call, end in [(parse_yard, ""), (parse_world, " in a")]:
            self.assert_fault(3, "twice", call, f"shelf a\nshelf b\nbox b 1{end}\nx")
            self.assert_fault(3, "twice", call, f"shelf a\nshelf b\nbox a 1{end}\nbox b 1{end}")
            self.assert_fault(4, "twice", call, f"shelf a\nshelf c\nbox b 1{end}\nbox c 1{end}")

    def test_too_many_lines(self):
        five = "\n".join([f"shelf {name}" for name in "abcde"])
        for call, end in [(parse_yard, ""), (parse_world, " in a")]:
            self.assert_fault(5, "many", call, f"{five}\nbox k 1{end}")
            boxes = "\n".join([f"box x{name} 1{end}" for name in "abcdefghijklm"])
            self.assert_fault(14, "many", call, f"shelf a\n{boxes}")
            self.assert_fault(17, "many", call, f"shelf a\nshelf b\nshelf c\nshelf d\n{boxes}\nx")
            self.assert_fault(13, "many", call, boxes)

    def test_no_shelf_or_no_box(self):
        for call, end in [(parse_yard, ""), (parse_world, " in b")]:
            self.assert_fault(2, "empty", call, "shelf a")
            self.assert_fault(5, "empty", call, "shelf a\nshelf b sealed\nshelf c\nshelf d")
            self.assert_fault(2, "empty", call, f"box b 1{end}")
            self.assert_fault(3, "empty", call, f"box b 1{end}\nbox c 1{end}")

    def test_holders(self):
        for holder in ["x", "", "A", "aa", "1", "in", "x" * 5000]:
            self.assert_fault(2, "holder", parse_world, f"shelf a\nbox b 1 in {holder}\nbox c 1 in y")
            self.assert_fault(3, "holder", parse_world, f"shelf a\nbox b 1 in c\nbox c 1 in {holder} nailed sealed")

    def test_loops(self):
        self.assert_fault(2, "loop", parse_world, "shelf a\nbox b 1 in b")
        self.assert_fault(3, "loop", parse_world, "shelf a\nbox b 1 in c\nbox c 1 in c")
        self.assert_fault(3, "loop", parse_world, "shelf a\nbox b 1 in c\nbox c 1 in d\nbox d 1 in c")
        self.assert_fault(3, "loop", parse_world, "shelf a\nshelf z\nbox b 1 in d\nbox c 1 in b\nbox d 1 in c")
        self.assert_fault(4, "loop", parse_world, "shelf a\nbox b 1 in a\nbox c 1 in b\nbox d 1 in e\nbox e 1 in d")


class TwoFaults(Case):
    """[15]: of two faults the one that is due first is told."""

    def assert_fault(self, line, fault, call, text):
        self.assert_error(BadText, {"line": line, "fault": fault}, call, text)

    def test_two_faults_of_one_line(self):
        for call, end in [(parse_yard, ""), (parse_world, " in a")]:
            self.assert_fault(1, "words", call, "shelf A nailed")
            self.assert_fault(2, "words", call, f"shelf a\nbox B 0{end} x")
            self.assert_fault(2, "name", call, f"shelf a\nbox B 0{end}")
            self.assert_fault(3, "name", call, f"shelf a\nbox k 1{end}\nshelf A")
            self.assert_fault(3, "name", call, f"shelf a\nbox k 1{end}\nbox K 1{end}")
            self.assert_fault(3, "weight", call, f"shelf a\nbox k 1{end}\nbox b 0{end}")
            self.assert_fault(2, "weight", call, f"shelf a\nbox a 0{end}")
            self.assert_fault(4, "order", call, f"shelf a\nshelf b\nbox k 1{end}\nbox b 1{end}")
            self.assert_fault(3, "order", call, f"shelf a\nbox k 1{end}\nshelf k")

    def test_order_and_twice_before_many(self):
        shelves = "shelf b\nshelf c\nshelf d\nshelf e\n"
        for call, end in [(parse_yard, ""), (parse_world, " in b")]:
            boxes = "\n".join([f"box x{name} 1{end}" for name in "abcdefghijkl"])
            self.assert_fault(5, "order", call, f"{shelves}shelf a")
            self.assert_fault(5, "name", call, f"{shelves}shelf A")
            self.assert_fault(14, "order", call, f"shelf b\n{boxes}\nbox a 1{end}")
            self.assert_fault(14, "order", call, f"shelf b\n{boxes}\nbox b 1{end}")
            self.assert_fault(14, "weight", call, f"shelf b\n{boxes}\nbox y 0{end}")
            self.assert_fault(15, "twice", call, f"shelf b\nshelf z\n{boxes}\nbox z 1{end}")
            self.assert_fault(14, "order", call, f"shelf b\n{boxes}\nshelf z")
            self.assert_fault(17, "order", call, f"{shelves}{boxes}\nshelf z")

    def test_an_earlier_line_goes_first(self):
        for call, end in [(parse_yard, ""), (parse_world, " in a")]:
            self.assert_fault(1, "name", call, f"shelf A\nbox b 1{end}\n")
            self.assert_fault(2, "weight", call, f"shelf a\nbox b 0{end}\n")
            self.assert_fault(2, "twice", call, f"shelf a\nbox a 1{end}\nbox B 1{end}")
            self.assert_fault(2, "order", call, "shelf b\nshelf a\nshelf")
            self.assert_fault(5, "many", call, "shelf a\nshelf b\nshelf c\nshelf d\nshelf e\nx")

    def test_lines_before_what_is_missing(self):
        for call in (parse_yard, parse_world):
            self.assert_fault(2, "words", call, "shelf a\n")
            self.assert_fault(2, "order", call, "shelf a\nshelf a")
            self.assert_fault(5, "many", call, "shelf a\nshelf b\nshelf c\nshelf d\nshelf e")

    def test_what_is_missing_before_holders_before_loops(self):
        self.assert_fault(2, "empty", parse_world, "box b 1 in x")
        self.assert_fault(2, "empty", parse_world, "box b 1 in b")
        self.assert_fault(3, "holder", parse_world, "shelf a\nbox b 1 in b\nbox c 1 in x")
        self.assert_fault(2, "holder", parse_world, "shelf a\nbox b 1 in x\nbox c 1 in c")
        self.assert_fault(3, "words", parse_world, "shelf a\nbox b 1 in x\nbox c 1")


class EveryText(Case):
    """[15]: a text that is read is exactly the text of what is read."""

    def assert_exact(self, parse, write, text):
        try:
            found = parse(text)
        except BadText as error:
            self.assertIn(type(error.line), (int,))
            self.assertTrue(1 <= error.line <= text.count("\n") + 2)
            return 0
        self.assertEqual(write(found), text)
        return 1

    def test_texts_that_differ_in_one_place_from_a_right_one(self):
        marks = " \nabkmxAB0123in"
        for parse, write, right in [(parse_world, format_world, SHOWN), (parse_yard, format_yard, SHOWN_YARD)]:
            read = 0
            for at in range(len(right) + 1):
                read += self.assert_exact(parse, write, right[:at] + right[at + 1:])
                for mark in marks:
                    read += self.assert_exact(parse, write, right[:at] + mark + right[at:])
                    read += self.assert_exact(parse, write, right[:at] + mark + right[at + 1:])
            self.assertGreater(read, 20)

    def test_texts_with_lines_left_out_or_exchanged(self):
        for parse, write, right in [(parse_world, format_world, SHOWN), (parse_yard, format_yard, SHOWN_YARD)]:
            read = 0
            for many in range(1, 6):
                for lines in itertools.permutations(right.split("\n"), many):
                    read += self.assert_exact(parse, write, "\n".join(lines))
            self.assertGreater(read, 5)


if __name__ == "__main__":
    unittest.main()
