"""nestweigh/orders.py: points [3], [4] and [69] to [72]."""

import random
import unittest

from nestweigh.errors import BadOrder, Unknown
from nestweigh.orders import blocks, format_program, names_used, parse_program, rename_program, statements
from nestweigh.renamings import Renaming, identity
from tests.support import Case

# Each kind of statement, with its program and its canonical text.
KINDS = [
    ("exchange k m", (("exchange", "k", "m"),)),
    ("bring k into m", (("bring", "k", "m"),)),
    ("if k in a\nend", (("if", ("in", "k", "a"), (), ()),)),
    ("if k within a\n  exchange k m\nend", (("if", ("within", "k", "a"), (("exchange", "k", "m"),), ()),)),
    (
        "if k like m\n  exchange k m\nelse\n  bring k into m\nend",
        (("if", ("like", "k", "m"), (("exchange", "k", "m"),), (("bring", "k", "m"),)),),
    ),
    ("if k in a\nelse\n  exchange k m\nend", (("if", ("in", "k", "a"), (), (("exchange", "k", "m"),)),)),
    ("while not k in a\nend", (("while", ("not", ("in", "k", "a")), ()),)),
    (
        "while not not not k in a\n  exchange k m\nend",
        (("while", ("not", ("not", ("not", ("in", "k", "a")))), (("exchange", "k", "m"),)),),
    ),
    ("repeat\nuntil k in a", (("repeat", (), ("in", "k", "a")),)),
    ("repeat\n  exchange k m\nuntil not k like m", (("repeat", (("exchange", "k", "m"),), ("not", ("like", "k", "m"))),)),
    ("each X in a\nend", (("each", "X", "a", ()),)),
    ("each X in a\n  bring X into m\nend", (("each", "X", "a", (("bring", "X", "m"),)),)),
    (
        "each X in a\n  each Y in X\n    exchange X Y\n  end\nend",
        (("each", "X", "a", (("each", "Y", "X", (("exchange", "X", "Y"),)),)),),
    ),
    (
        "each X in a\n  repeat\n    exchange X k\n  until X in b\nend",
        (("each", "X", "a", (("repeat", (("exchange", "X", "k"),), ("in", "X", "b")),)),),
    ),
    ("exchange k m\nexchange m k", (("exchange", "k", "m"), ("exchange", "m", "k"))),
    ("", ()),
]
MIXED = "each X in a\n  if X in b\n    exchange X k\n  else\n    repeat\n    until not X within c\n  end\nend\nbring u into v"
# A text for each word that begins a block, with its last line.
HEADS = {"if k in a": "end", "while k in a": "end", "repeat": "until k in a", "each V in a": "end"}
BAD_TERMS = ["XY", "Xa", "abcdefghi", "k-", "1k", "k.", "into!", "'", "kM", "_", "X1", "x_y", "K1"]


def nested(heads, inner=()):
    """A text with the blocks of these heads inside each other."""
    lines = list(inner)
    for at, head in reversed(list(enumerate(heads))):
        lines = [head.replace("V", "VWXYZU"[at])] + lines + [HEADS[head]]
    return "\n".join(lines)


def random_program(chance, depth=0, bound=()):
    """A program with at most six statements outside of all blocks."""
    found = []
    for _ in range(chance.randint(0, 3 if depth else 6)):
        terms = [chance.choice(["k", "m", "not", "in", "a1", *bound]) for _ in range(2)]
        word = chance.choice(["exchange", "bring", "if", "while", "repeat", "each"] if depth < 3 else ["exchange", "bring"])
        condition = (chance.choice(["in", "within", "like"]), *terms)
        for _ in range(chance.randint(0, 3)):
            condition = ("not", condition)
        body = random_program(chance, depth + 1, bound) if word in ("if", "while", "repeat") else ()
        if word in ("exchange", "bring"):
            found.append((word, *terms))
        elif word == "if":
            found.append((word, condition, body, random_program(chance, depth + 1, bound)))
        elif word == "while":
            found.append((word, condition, body))
        elif word == "repeat":
            found.append((word, body, condition))
        else:
            variable = chance.choice([name for name in "ABCDEFG" if name not in bound])
            found.append((word, variable, terms[0], random_program(chance, depth + 1, bound + (variable,))))
    return tuple(found)


class Reading(Case):
    """[69] to [72]: parse_program and format_program"""

    def test_each_kind_of_statement(self):
        for text, program in KINDS:
            self.assert_answer(program, parse_program, text)
            self.assert_answer(text, format_program, program)

    def test_several_statements(self):
        program = (
            ("each", "X", "a", (
                ("if", ("in", "X", "b"), (("exchange", "X", "k"),), (("repeat", (), ("not", ("within", "X", "c"))),)),
            )),
            ("bring", "u", "v"),
        )
        self.assert_answer(program, parse_program, MIXED)
        self.assert_answer(MIXED, format_program, program)

    def test_spaces_and_empty_lines(self):
        text = "\n   \n exchange   k  m \n\n  if  k   in a\n exchange k m\n      else\n\nend   \n"
        wanted = (("exchange", "k", "m"), ("if", ("in", "k", "a"), (("exchange", "k", "m"),), ()))
        self.assert_answer(wanted, parse_program, text)
        self.assert_answer("exchange k m\nif k in a\n  exchange k m\nend", format_program, wanted)
        for text in ("", " ", "\n", "\n\n   \n", "      "):
            self.assert_answer((), parse_program, text)

    def test_an_else_that_is_empty(self):
        wanted = (("if", ("in", "k", "a"), (("exchange", "k", "m"),), ()),)
        self.assert_answer(wanted, parse_program, "if k in a\nexchange k m\nelse\nend")
        self.assert_answer("if k in a\n  exchange k m\nend", format_program, wanted)
        self.assert_answer((("if", ("in", "k", "a"), (), ()),), parse_program, "if k in a\nelse\nend")

    def test_names_that_are_fixed_words(self):
        for text, program in [
            ("exchange in into", (("exchange", "in", "into"),)), ("bring into into end", (("bring", "into", "end"),)),
            ("if not in not\nend", (("if", ("in", "not", "not"), (), ()),)),
            ("if not not in in\nend", (("if", ("not", ("in", "not", "in")), (), ()),)),
            ("while in in in\nend", (("while", ("in", "in", "in"), ()),)),
            ("repeat\nuntil like like like", (("repeat", (), ("like", "like", "like")),)),
            ("each X in in\nend", (("each", "X", "in", ()),)),
            ("if not not not not in not\nend", (("if", ("not", ("not", ("not", ("in", "not", "not")))), (), ()),)),
        ]:
            self.assert_answer(program, parse_program, text)
            self.assert_answer(text, format_program, program)

    def test_canonical_texts_are_read_as_the_same_program(self):
        chance = random.Random(23)
        for _ in range(300):
            program = random_program(chance)
            text = format_program(program)
            if statements(program) <= 40:
                self.assert_same(parse_program(text), program)
                loose = text.replace(" ", "  ").replace("\n", " \n\n ")
                self.assert_same(parse_program(loose), program)
            self.assert_same([line for line in text.split("\n") if line.strip() == ""], [""] if program == () else [])


class Faults(Case):
    """[71]"""

    def assert_fault(self, text, line, fault):
        self.assert_error(BadOrder, {"line": line, "fault": fault}, parse_program, text)

    def test_words(self):
        for text in [
            "exchange", "exchange k", "exchange k m n", "Exchange k m", "exchanges k m", "bring k m", "bring k in m",
            "bring k into", "bring k into m n", "bring into k m", "bring k INTO m", "if", "if k", "if k in", "if in a", "while like k", "until within a", "if not in", "if k a in",
            "if in k a", "if k In a", "if k is a", "if not k", "if k not in a", "if nots k in a",
            "if not not not not k in a", "if not k in a b", "if k in a and", "if not not not not not k in a",
            "while", "while k in", "while k on a", "until", "until k in", "until k", "until k near a", "repeat k",
            "repeat until", "else if", "else k", "end if", "end end", "each", "each X", "each X in", "each X a",
            "each X of a", "each X in a b", "each X within a", "for X in a", "k", "in", "into", "like k m", "not k in a",
            "then", "K", "-", "X", "exchange, k m", "1", "end.", "if k in a then",
        ]:
            self.assert_fault(text, 1, "words")
            self.assert_fault("exchange k m\n\n  " + text + " \nelse", 3, "words")

    def test_three_times_not_and_four(self):
        for word in ("if", "while"):
            for many in range(5):
                text = f"{word} {'not ' * many}k in a\nend"
                if many <= 3:
                    self.assertEqual(format_program(parse_program(text)), text)
                else:
                    self.assert_fault(text, 1, "words")
        self.assert_fault("repeat\nuntil not not not not k in a", 2, "words")

    def test_end(self):
        for word in ("else", "end", "until k in a"):
            self.assert_fault(word, 1, "end")
            self.assert_fault("exchange k m\n" + word, 2, "end")
            self.assert_fault("if k in a\nend\n" + word, 3, "end")
        for head, right in HEADS.items():
            for word in ("else", "end", "until k in a"):
                if word != right and (head, word) != ("if k in a", "else"):
                    self.assert_fault(f"{head}\nexchange k m\n{word}", 3, "end")
                    # Only the innermost block is asked.
                    for outer in HEADS:
                        self.assert_fault(nested([outer]).split("\n")[0] + f"\n{head.replace('V', 'W')}\n{word}", 3, "end")
        self.assert_fault("if k in a\nelse\nelse", 3, "end")
        self.assert_fault("if k in a\nelse\nuntil k in a", 3, "end")
        self.assert_fault("if k in a\nif k in b\nelse\nend\nelse\nelse", 6, "end")

    def test_term(self):
        for term in BAD_TERMS:
            for text in [
                f"exchange {term} k", f"exchange k {term}", f"bring {term} into k", f"bring k into {term}",
                f"if {term} in a", f"if k within {term}", f"while not {term} like a", f"while k in {term}", f"each X in {term}",
            ]:
                self.assert_fault(text, 1, "term")
            self.assert_fault(f"repeat\nuntil {term} in a", 2, "term")
            self.assert_fault(f"repeat\nuntil not k in {term}", 2, "term")
        for variable in BAD_TERMS + ["k", "x", "in", "ab"]:
            self.assert_fault(f"each {variable} in a\nend", 1, "term")

    def test_variable(self):
        for text, line in [
            ("exchange X k", 1), ("exchange k X", 1), ("bring X into k", 1), ("bring k into X", 1), ("if X in a", 1),
            ("if k in X", 1), ("while not k in X", 1), ("repeat\nuntil X in a", 2), ("each X in X", 1), ("each X in Y", 1),
            ("each X in a\nexchange X Y", 2), ("each X in a\nend\nexchange X k", 3), ("each X in a\neach X in b", 2),
            ("each X in a\neach Y in X\neach X in b", 3), ("each X in a\neach Y in Y", 2),
            ("each X in a\neach Y in X\nend\nexchange Y k", 4), ("repeat\neach X in a\nend\nuntil X in a", 4),
            ("if k in a\neach X in a\nend\nelse\nexchange X k", 5), ("exchange A a\nexchange a", 1),
            ("each X in a\neach X in X", 2),
        ]:
            self.assert_fault(text, line, "variable")
        for text in [
            "each X in a\n  each Y in X\n    exchange X Y\n  end\n  each Y in b\n  end\nend\neach X in b\nend",
            "each A in z\n  each Z in z\n    exchange A Z\n  end\nend",
        ]:
            self.assertEqual(format_program(parse_program(text)), text)

    def test_an_until_sees_the_each_around_it(self):
        for text in [
            "each X in a\n  repeat\n  until X in b\nend", "each X in a\n  each Y in X\n    repeat\n    until X in Y\n  end\nend",
            "each X in a\n  if X in b\n    repeat\n    until not X like k\n  end\nend",
        ]:
            self.assertEqual(format_program(parse_program(text)), text)

    def test_depth(self):
        for head in HEADS:
            five = [head] * 5
            self.assertEqual(blocks(parse_program(nested(five))), 5)
            self.assertEqual(blocks(parse_program(nested(five, ["exchange k m"]))), 6)
            for sixth in HEADS:
                self.assert_fault(nested(five, [sixth.replace("V", "U")]), 6, "depth")
        # An "else" opens no block, and a block that is closed is none any more.
        five = "\n".join(["if k in a", "else"] * 5)
        self.assert_fault(five + "\nif k in a", 11, "depth")
        self.assertEqual(blocks(parse_program(five + "\nexchange k m" + "\nend" * 5)), 6)
        twice = "\n".join(["if k in a"] * 5 + ["end", "while k in a", "end"] + ["end"] * 4)
        self.assertEqual(statements(parse_program(twice)), 6)

    def test_forty_statements_and_one_more(self):
        self.assertEqual(statements(parse_program("exchange k m\n" * 40)), 40)
        self.assert_fault("exchange k m\n" * 41, 41, "many")
        self.assert_fault("exchange k m\n" * 45, 41, "many")
        for line in ["bring k into m", "if k in a", "while k in a", "repeat", "each X in a"]:
            self.assert_fault("exchange k m\n\n" * 40 + line, 81, "many")
        # Lines that begin no statement are not counted, wherever the statements stand.
        inner = "if k in a\nexchange k m\nelse\nexchange k m\nend\nrepeat\nuntil k in a\n"
        self.assertEqual(statements(parse_program(inner * 10)), 40)
        self.assert_fault(inner * 10 + "exchange k m", 71, "many")
        self.assertEqual(statements(parse_program("if k in a\n" + "exchange k m\n" * 39 + "else\nend")), 40)
        self.assert_fault("if k in a\n" + "exchange k m\n" * 39 + "else\nexchange k m\nend", 42, "many")

    def test_open(self):
        for head in HEADS:
            self.assert_fault(nested([head]).split("\n")[0], 2, "open")
            self.assert_fault(nested([head]).split("\n")[0] + "\n\n \n", 5, "open")
            self.assert_fault(nested([head] * 3).rsplit("\n", 1)[0], 6, "open")
        self.assert_fault("if k in a\nelse", 3, "open")
        self.assert_fault("\nif k in a\nexchange k m\n", 5, "open")

    def test_two_faults_on_one_line(self):
        for text, line, fault in [
            ("exchange K1 m n", 1, "words"), ("end end", 1, "words"), ("else Q", 1, "words"),
            ("until K1 in a", 1, "end"), ("until X in a", 1, "end"), ("if k in a\nuntil K1 in a", 2, "end"),
            ("exchange K1 X", 1, "term"), ("exchange X K1", 1, "term"), ("each K1 in X", 1, "term"),
            ("each X in a\neach X in K1", 2, "term"), ("each k in X", 1, "term"), ("bring X into K1", 1, "term"),
            ("if X in K1", 1, "term"), ("repeat\nuntil X in K1", 2, "term"),
        ]:
            self.assert_fault(text, line, fault)
        five = ["if k in a"] * 5
        for inner, fault in [
            ("if k on a", "words"), ("repeat k", "words"), ("if K1 in a", "term"), ("each k in a", "term"),
            ("if X in a", "variable"), ("each X in X", "variable"), ("while k in a", "depth"),
        ]:
            self.assert_fault(nested(five, [inner]), 6, fault)
        forty = "exchange k m\n" * 35 + "\n".join(five) + "\n"
        for inner, fault in [
            ("exchange k", "words"), ("else if", "words"), ("until k in a", "end"), ("exchange K1 m", "term"),
            ("exchange k X", "variable"), ("if k in a", "depth"), ("repeat", "depth"), ("exchange k m", "many"),
        ]:
            self.assert_fault(forty + inner, 41, fault)
        self.assert_fault(forty + "end", 42, "open")

    def test_the_first_line_with_a_fault_is_told(self):
        for text, line, fault in [
            ("exchange X k\nexchange k", 1, "variable"), ("if k in a\nexchange k", 2, "words"), ("end\nexchange k", 1, "end"),
            ("exchange k m\n\n\nexchange K1 m\nend", 4, "term"), ("exchange k m\n" * 41 + "end", 41, "many"),
        ]:
            self.assert_fault(text, line, fault)


class Looking(Case):
    """statements, blocks, names_used and rename_program"""

    def test_statements(self):
        for text, many in [
            ("", 0), ("exchange k m", 1), ("bring k into m\nexchange k m", 2), (MIXED, 5), ("repeat\nuntil k in a", 1),
            (nested(list(HEADS)), 4), ("if k in a\nexchange k m\nelse\nexchange k m\nexchange k m\nend", 4),
        ]:
            self.assert_answer(many, statements, parse_program(text))

    def test_blocks(self):
        for text, depth in [
            ("", 0), ("exchange k m", 1), ("exchange k m\nbring k into m", 1), ("if k in a\nend", 1), ("repeat\nuntil k in a", 1),
            ("if k in a\nexchange k m\nend", 2), ("if k in a\nelse\nexchange k m\nend", 2), (nested(list(HEADS)), 4),
            (nested(list(HEADS), ["exchange k m"]), 5), (MIXED, 3), ("exchange k m\neach X in a\nexchange X k\nend\nexchange k m", 2),
            ("while k in a\nwhile k in a\nend\nend\nexchange k m", 2),
        ]:
            self.assert_answer(depth, blocks, parse_program(text))

    def test_names_used(self):
        for text, names in [
            ("", []), ("exchange m k", ["k", "m"]), ("bring t into t", ["t"]), (MIXED, ["a", "b", "c", "k", "u", "v"]),
            ("if not t within b\nelse\nexchange d c\nend", ["b", "c", "d", "t"]), ("each X in zz\nend", ["zz"]),
            ("while k like a\nend\nrepeat\nuntil not d in c", ["a", "c", "d", "k"]), ("each X in a\nexchange X X\nend", ["a"]),
            ("exchange in into", ["in", "into"]), ("if not not in in\nend", ["in", "not"]),
        ]:
            self.assert_answer(names, names_used, parse_program(text))

    def test_rename_program(self):
        table = {"a": "b", "b": "a", "c": "cc", "k": "n1", "u": "k", "v": "not", "zz": "x"}
        text = "each X in b\n  if X in a\n    exchange X n1\n  else\n    repeat\n    until not X within cc\n  end\nend\nbring k into not"
        self.assert_answer(parse_program(text), rename_program, parse_program(MIXED), Renaming(table))
        for text, program in KINDS:
            same = identity(names_used(program))
            self.assert_answer(program, rename_program, program, same)
            other = Renaming({name: name[:1] + "q" for name in names_used(program)})
            words = [word + "q" if word in names_used(program) and word != "in" else word for word in text.split(" ")]
            self.assert_same(names_used(rename_program(program, other)), sorted(other(name) for name in names_used(program)))
            self.assert_same(len(format_program(rename_program(program, other)).split(" ")), len(words))
        self.assert_answer((), rename_program, (), Renaming({}))

    def test_fixed_words_stay_when_names_are_renamed(self):
        new = Renaming({"in": "a", "not": "b", "into": "c"})
        wanted = "if a in b\n  bring c into a\nend\neach X in b\n  repeat\n  until X like a\nend"
        program = parse_program("if in in not\nbring into into in\nend\neach X in not\nrepeat\nuntil X like in\nend")
        self.assert_answer(parse_program(wanted), rename_program, program, new)

    def test_names_that_are_not_in_the_domain(self):
        names = ["a", "b", "c", "k", "u", "v"]
        for name in names:
            less = identity([other for other in names if other != name])
            self.assert_error(Unknown, {"name": name}, rename_program, parse_program(MIXED), less)
        self.assert_error(Unknown, {"name": "b"}, rename_program, parse_program(MIXED), identity(["a", "v", "x"]))
        self.assert_error(Unknown, {"name": "k"}, rename_program, parse_program("exchange m k"), Renaming({}))


if __name__ == "__main__":
    unittest.main()
