"""nestweigh/running.py: points [2], [3], [4], [73] and [74]."""

import random
import unittest

from nestweigh.classes import count, listed
from nestweigh.errors import BadNumber, OrderRefused, OutOfSteps, TooMany, Unknown
from nestweigh.orders import format_program, parse_program, statements
from nestweigh.passage import is_history
from nestweigh.running import as_program, first_unlike, outcome, partner_for, run
from nestweigh.texts import parse_world
from nestweigh.worlds import World
from nestweigh.yards import Yard
from tests import slow
from tests.support import Case
from tests.test_orders import random_program

SHOWN = "shelf a\nshelf b\nbox k 3 in a\nbox m 2 in b\nbox n 1 in m\nbox t 1 in a"
# Boxes of weight 1 on three shelves and in each other; f is nailed, c is sealed.
PLAIN = (
    "shelf a\nshelf b\nshelf c sealed\nbox d 1 in a\nbox e 1 in b\nbox f 1 in b nailed\nbox g 1 in c\nbox h 1 in b\n"
    "box i 5 in a\nbox j 1 in i"
)
NO_STEPS = [-1, 61, 62, 10**3999, -10**3999, True, False, None, "0", "40", ""]


def shown():
    return parse_world(SHOWN)


def plain():
    return parse_world(PLAIN)


class RunCase(Case):
    def assert_done(self, text, deeds, world=None, **more):
        world = plain() if world is None else world
        program = parse_program(text)
        found = world
        for first, second in deeds:
            found = self.after(found, first, second)
        self.assert_answer((found, deeds), run, program, world, **more)
        self.assert_answer(("done", found, deeds), outcome, program, world, **more)
        self.assertTrue(is_history(world, found, deeds))

    def after(self, world, first, second):
        table = world.table()
        table[first], table[second] = table[second], table[first]
        return World(world.yard, table)

    def assert_refused(self, text, line, reason, deeds=(), world=None, **more):
        world = plain() if world is None else world
        program = parse_program(text)
        told = {"line": line, "reason": reason, "deeds": list(deeds)}
        self.assert_error(OrderRefused, told, run, program, world, **more)
        self.assert_answer(("refused", line, reason, list(deeds)), outcome, program, world, **more)

    def assert_out(self, text, steps, line, deeds=(), world=None):
        world = plain() if world is None else world
        program = parse_program(text)
        told = {"line": line, "deeds": list(deeds)}
        self.assert_error(OutOfSteps, told, run, program, world, steps=steps)
        self.assert_answer(("out", line, list(deeds)), outcome, program, world, steps=steps)


class Runs(RunCase):
    """[73]: run and outcome"""

    def test_examples(self):
        program = parse_program("each X in b\n  bring X into a\nend")
        self.assert_same(program, (("each", "X", "b", (("bring", "X", "a"),)),))
        self.assert_same(outcome(program, shown())[2], [("k", "m")])
        self.assert_answer(
            ("refused", 1, ("unlike", "k", "n", 3, 1), []), outcome, parse_program("exchange k n"), shown()
        )

    def test_the_empty_program(self):
        self.assert_done("", [])
        self.assert_done("", [], steps=0)

    def test_exchange(self):
        self.assert_done("exchange e d", [("d", "e")])
        self.assert_done("exchange d e\nexchange e d", [("d", "e"), ("d", "e")])
        self.assert_done("exchange j d\nexchange j e", [("d", "j"), ("e", "j")])

    def test_reasons_of_exchange(self):
        for text, reason in [
            ("exchange z d", ("unknown", "z")), ("exchange d a", ("unknown", "a")), ("exchange z z", ("unknown", "z")),
            ("exchange d d", ("same", "d")), ("exchange j i", ("inside", "j", "i")), ("exchange i j", ("inside", "j", "i")),
            ("exchange d i", ("unlike", "d", "i", 1, 6)), ("exchange f d", ("nailed", "f")), ("exchange g d", ("sealed", "c")),
            ("exchange e h", ("idle", "b")), ("exchange h e", ("idle", "b")),
        ]:
            self.assert_refused(text, 1, reason)
            self.assert_refused("exchange d e\n\nexchange d e\n" + text, 3, reason, [("d", "e"), ("d", "e")])

    def test_bring(self):
        # The least box in the holder with which the deed is possible: f is nailed.
        self.assert_done("bring d into b", [("d", "e")])
        self.assert_done("bring d into b\nbring e into b", [("d", "e"), ("d", "e")])
        self.assert_done("exchange d e\nbring e into b", [("d", "e"), ("d", "e")])
        self.assert_done("exchange e j\nbring d into b", [("e", "j"), ("d", "h")])
        self.assert_done("bring h into i", [("h", "j")])
        self.assert_done("bring j into a", [("d", "j")])

    def test_bring_to_where_it_lies_already(self):
        for text in ["bring d into a", "bring f into b", "bring g into c", "bring j into i"]:
            self.assert_done(text, [])

    def test_reasons_of_bring(self):
        for text, reason in [
            ("bring z into a", ("unknown", "z")), ("bring a into b", ("unknown", "a")), ("bring d into z", ("unknown", "z")),
            ("bring z into y", ("unknown", "z")), ("bring f into a", ("nobody", "f", "a")), ("bring d into c", ("nobody", "d", "c")),
            ("bring g into a", ("nobody", "g", "a")), ("bring i into b", ("nobody", "i", "b")), ("bring d into e", ("nobody", "d", "e")),
            ("bring d into d", ("nobody", "d", "d")), ("bring i into j", ("nobody", "i", "j")), ("bring i into i", ("nobody", "i", "i")),
        ]:
            self.assert_refused(text, 1, reason)

    def test_conditions(self):
        for text, wanted in [
            ("d in a", True), ("d in b", False), ("d in d", False), ("j in i", True), ("j in a", False), ("d in j", False),
            ("j within i", True), ("j within a", True), ("j within b", False), ("i within j", False), ("d within d", False),
            ("i within i", False), ("d like e", True), ("d like d", True), ("d like i", False), ("g like f", True),
            ("i like i", True), ("i in i", False),
        ]:
            for nots in range(4):
                self.assert_done(
                    f"if {'not ' * nots}{text}\n  exchange d e\nelse\n  exchange d h\nend",
                    [("d", "e") if wanted == (nots % 2 == 0) else ("d", "h")],
                )

    def test_likeness_is_of_full_weights(self):
        for first, second, wanted in [("k", "m", True), ("m", "n", False), ("n", "t", True), ("k", "k", True)]:
            text = f"if {first} like {second}\nexchange k m\nend"
            self.assert_done(text, [("k", "m")] if wanted else [], shown())

    def test_reasons_of_conditions(self):
        for text, name in [
            ("z in a", "z"), ("a in b", "a"), ("d in z", "z"), ("z in y", "z"), ("z within a", "z"), ("a within b", "a"),
            ("d within z", "z"), ("z like d", "z"), ("d like z", "z"), ("d like a", "a"), ("a like d", "a"), ("a like a", "a"),
            ("a in a", "a"), ("c like z", "c"),
        ]:
            for nots in range(4):
                head = "not " * nots + text
                self.assert_refused(f"if {head}\nend", 1, ("unknown", name))
                self.assert_refused(f"exchange d e\nwhile {head}\nend", 2, ("unknown", name), [("d", "e")])
                self.assert_refused(f"repeat\nexchange d e\nuntil {head}", 3, ("unknown", name), [("d", "e")])

    def test_if(self):
        self.assert_done("if d in a\nexchange d e\nend", [("d", "e")])
        self.assert_done("if d in b\nexchange d e\nend", [])
        self.assert_done("if d in b\nexchange z z\nelse\nexchange d e\nend\nexchange d e", [("d", "e"), ("d", "e")])
        self.assert_done("if d in b\nelse\nend", [])

    def test_while(self):
        self.assert_done("while d in b\nexchange z z\nend", [])
        self.assert_done("while d in a\nexchange d e\nend", [("d", "e")])
        self.assert_done("while not d in i\nif d in a\nexchange d e\nelse\nexchange d j\nend\nend", [("d", "e"), ("d", "j")])

    def test_repeat(self):
        self.assert_done("repeat\nexchange d e\nuntil d in b", [("d", "e")])
        self.assert_done("repeat\nexchange d e\nuntil d in a", [("d", "e"), ("d", "e")])
        self.assert_done("repeat\nuntil d in a", [])

    def test_each(self):
        # The boxes are noted before, and each is done wherever it lies by then.
        self.assert_done("each X in b\nif X like e\nbring d into i\nend\nend", [("d", "j")])
        self.assert_done("each X in b\nif not X like e\nexchange z z\nend\nend", [])
        self.assert_refused("each X in b\nexchange X d\nend", 2, ("nailed", "f"), [("d", "e")])
        self.assert_done("each X in a\neach Y in X\nexchange Y d\nend\nend", [("d", "j")])
        world = parse_world("shelf a\nshelf b\nbox k 1 in a\nbox l 1 in a\nbox m 1 in b\nbox n 1 in b")
        # The boxes of b are noted anew for each box of a.
        text = "each X in a\neach Y in b\nif X in a\nexchange X Y\nend\nend\nend"
        self.assert_done(text, [("k", "m"), ("k", "l")], world)
        self.assert_done("each X in e\nexchange z z\nend", [])
        self.assert_refused("each X in z\nend", 1, ("unknown", "z"))
        self.assert_refused("each X in a\neach Y in X\nexchange X Y\nend\nend", 3, ("inside", "j", "i"), [])

    def test_names_stand_in_reasons(self):
        self.assert_refused("each X in b\nexchange d X\nexchange X i\nend", 3, ("unlike", "e", "i", 1, 6), [("d", "e")])
        self.assert_refused("each X in i\nbring X into X\nend", 2, ("nobody", "j", "j"))
        self.assert_refused("each X in i\nif a in X\nend\nend", 2, ("unknown", "a"))
        self.assert_refused("each X in i\nbring a into X\nend", 2, ("unknown", "a"))
        self.assert_refused("each X in i\neach Y in a\nif Y like X\nend\nif Y in q\nend\nend\nend", 5, ("unknown", "q"))

    def test_an_until_sees_the_each_around_it(self):
        self.assert_done("each X in i\nrepeat\nexchange X d\nuntil X in a\nend", [("d", "j")])

    def test_places_are_those_of_the_canonical_text(self):
        # An empty "else", empty lines and indents do not count; "else", "end" and "until" do.
        text = "\nif d in a\n\nif d in b\nelse\nend\nelse\nexchange d e\nend\nexchange z z"
        self.assert_refused(text, 7, ("unknown", "z"))
        self.assertEqual(format_program(parse_program(text)).split("\n")[6], "exchange z z")
        self.assert_refused("if d in b\nexchange d e\nelse\nexchange z z\nend", 4, ("unknown", "z"))
        self.assert_refused("if d in b\nelse\nexchange z z\nend", 3, ("unknown", "z"))
        self.assert_refused("if d in b\nif d in a\nelse\nexchange d e\nend\nelse\nrepeat\nexchange z z\nuntil d in a\nend", 8, (
            "unknown", "z",
        ))
        self.assert_refused("each X in i\nexchange d e\nend\nwhile d in b\nexchange z d\nend", 5, ("unknown", "z"), [("d", "e")])
        self.assert_refused("repeat\nuntil d in a\nrepeat\nif d in a\nend\nuntil z in a", 6, ("unknown", "z"))


class Steps(RunCase):
    """[74]"""

    def test_numbers_that_are_not_allowed(self):
        for steps in NO_STEPS:
            for text in ("", "exchange z z"):
                self.assert_error(BadNumber, {"number": steps}, run, parse_program(text), plain(), steps=steps)
                self.assert_error(BadNumber, {"number": steps}, outcome, parse_program(text), plain(), steps=steps)
            great = World(Yard(["s"], {name: 1 for name in "klm"}), dict(zip("klm", "sss")))
            self.assert_error(BadNumber, {"number": steps}, first_unlike, (), (), great, steps=steps)

    def test_a_step_too_many_at_each_kind_of_statement(self):
        for text, line in [
            ("exchange d e", 1), ("bring d into b", 1), ("bring d into a", 1), ("if d in a\nend", 1), ("if d in b\nend", 1),
            ("while d in b\nend", 1), ("repeat\nuntil d in a", 2), ("each X in i\nend", 1), ("each X in b\nend", 1),
        ]:
            self.assert_out(text, 0, line)
            before = "exchange d e\nexchange d e\n"
            self.assert_out(before + text, 2, line + 2, [("d", "e")] * 2)

    def test_nothing_of_the_step_is_looked_at(self):
        for text, line in [
            ("exchange z z", 1), ("bring z into z", 1), ("if z in a\nend", 1), ("while z in z\nend", 1), ("repeat\nuntil z like a", 2),
        ]:
            self.assert_out(text, 0, line)
            self.assert_refused(text, line, ("unknown", "z"), steps=1)

    def test_the_test_of_each_is_no_step(self):
        self.assert_refused("each X in z\nend", 1, ("unknown", "z"), steps=0)
        self.assert_refused("exchange d e\neach X in z\nend", 2, ("unknown", "z"), [("d", "e")], steps=1)
        self.assert_done("each X in e\nexchange X X\nend", [], steps=0)
        self.assert_done("each X in i\nend", [], steps=1)
        self.assert_done("each X in b\nend", [], steps=3)
        self.assert_out("each X in b\nend", 2, 1)

    def test_the_steps_are_counted_through_the_whole_run(self):
        # e, f and h: a step each, and one for each bring.
        text = "each X in b\nif X like e\nbring d into b\nend\nend"
        deeds = [("d", "e")]
        self.assert_done(text, deeds, steps=9)
        for steps, line in enumerate([1, 2, 3, 1, 2, 3, 1, 2, 3]):
            self.assert_out(text, steps, line, deeds if steps > 2 else [])
        text = "repeat\nexchange d e\nuntil d in a"
        for steps, line in enumerate([2, 3, 2, 3]):
            self.assert_out(text, steps, line, [("d", "e")] * ((steps + 1) // 2))
        self.assert_done(text, [("d", "e")] * 2, steps=4)
        text = "while d in a\nbring d into a\nexchange d e\nend\nexchange d e"
        for steps, (line, many) in enumerate([(1, 0), (2, 0), (3, 0), (1, 1), (5, 1)]):
            self.assert_out(text, steps, line, [("d", "e")] * many)
        self.assert_done(text, [("d", "e")] * 2, steps=5)

    def test_runs_without_an_end(self):
        self.assert_out("while d in a\nend", 60, 1)
        self.assert_out("while d like e\nexchange d e\nend", 60, 1, [("d", "e")] * 30)
        self.assert_out("while d like e\nexchange d e\nend", 59, 2, [("d", "e")] * 29)
        self.assert_out("repeat\nuntil d in b", 60, 2)
        self.assert_out("repeat\nexchange d e\nuntil d in c", 40, 2, [("d", "e")] * 20)

    def test_forty_steps_if_none_are_told(self):
        text = "exchange d e\n" * 40
        self.assert_done(text, [("d", "e")] * 40)
        self.assert_done(text, [("d", "e")] * 40, steps=60)
        program = parse_program("if d in a\nend\n" + "exchange d e\n" * 39) + parse_program("exchange d e")
        self.assert_same(outcome(program[:40], plain())[0], "done")
        self.assert_answer(("out", 1, [("d", "e")] * 20), outcome, parse_program("while d like e\nexchange d e\nend"), plain())
        told = {"line": 1, "deeds": [("d", "e")] * 20}
        self.assert_error(OutOfSteps, told, run, parse_program("while d like e\nexchange d e\nend"), plain())
        self.assert_out(text, 39, 40, [("d", "e")] * 39)
        self.assert_done("each X in e\nend\n" + "exchange d e\n" * 30, [("d", "e")] * 30)

    def test_sixty_steps(self):
        text = "each X in b\n" + "exchange d e\nexchange d e\n" * 9 + "end"
        self.assert_done(text, [("d", "e")] * 54, steps=57)
        self.assert_out(text, 56, 19, [("d", "e")] * 53)
        self.assert_out("repeat\nexchange d e\nexchange d e\nuntil d in b", 60, 2, [("d", "e")] * 40)


class Partners(Case):
    """partner_for"""

    def test_partners(self):
        for box, holder, wanted in [
            ("d", "b", "e"), ("e", "a", "d"), ("j", "a", "d"), ("j", "b", "e"), ("h", "i", "j"), ("d", "i", "j"),
            ("d", "a", None), ("f", "b", None), ("f", "a", None), ("d", "c", None), ("g", "b", None), ("i", "b", None),
            ("d", "d", None), ("i", "i", None), ("i", "j", None), ("d", "e", None), ("g", "c", None),
        ]:
            self.assert_answer(wanted, partner_for, plain(), box, holder)

    def test_unknown(self):
        for name in ["a", "c", "z", "", "D", "no name"]:
            self.assert_error(Unknown, {"name": name}, partner_for, plain(), name, "a")
            self.assert_error(Unknown, {"name": name}, partner_for, plain(), name, "z")
            self.assert_error(Unknown, {"name": name}, partner_for, plain(), name, name)
        for name in ["z", "", "A", "no name"]:
            self.assert_error(Unknown, {"name": name}, partner_for, plain(), "d", name)


class Unlike(Case):
    """first_unlike"""

    def assert_unlike(self, wanted, first, second, world=None, **more):
        world = shown() if world is None else world
        one, two = parse_program(first), parse_program(second)
        self.assert_answer(wanted, first_unlike, one, two, world, **more)
        self.assert_answer(wanted, first_unlike, two, one, world, **more)

    def test_programs(self):
        self.assert_unlike(None, "", "")
        self.assert_unlike(None, "exchange k m", "exchange m k")
        self.assert_unlike(None, "exchange k m\nexchange k m", "")
        self.assert_unlike(0, "exchange k m", "")
        self.assert_unlike(0, "exchange k n", "")
        # Two runs that are not done are not unlike, whatever ended them.
        self.assert_unlike(None, "exchange k n", "while k like k\nend")
        self.assert_unlike(None, "exchange z z", "exchange k n")
        for world in listed(shown()):
            self.assert_unlike(0, "bring k into b\nbring n into a", "", world)
        self.assert_unlike(2, "bring k into a", "")
        self.assert_unlike(1, "if k in a\nif n in m\nexchange k m\nend\nend", "")
        self.assert_unlike(3, "if k in b\nif n in m\nexchange k m\nend\nend", "")
        self.assert_unlike(None, "if k in b\nexchange k m\nexchange k m\nend", "")

    def test_steps(self):
        self.assert_unlike(0, "exchange k m\nexchange k m", "", steps=1)
        self.assert_unlike(None, "exchange k m\nexchange k m", "", steps=2)
        self.assert_unlike(None, "exchange k m\nexchange k m", "exchange n t\nexchange n t", steps=1)
        self.assert_unlike(None, "exchange k m\n" * 40, "")
        self.assert_unlike(0, "exchange k m\n" * 40, "", steps=39)
        # From the world of rank 0 the loop takes 4 steps, so that 41 are needed where 40 are told or none.
        long = "repeat\nexchange k m\nuntil k in a\n" + "exchange k m\n" * 36
        self.assert_unlike(2, long, "")
        self.assert_unlike(0, long + "if k in a\nend", "")
        self.assert_unlike(0, long + "if k in a\nend", "", steps=40)
        self.assert_unlike(2, long + "if k in a\nend", "", steps=41)
        # Each run has all the steps.
        self.assert_unlike(None, "exchange k m\n" * 40, "exchange n t\n" * 40)

    def test_classes_of_twelve_worlds_and_more(self):
        twelve = World(Yard(list("stu"), {name: 1 for name in "klmn"}), dict(zip("klmn", "stuu")))
        self.assert_same(count(twelve), 12)
        self.assert_unlike(None, "exchange k l", "exchange l k", twelve)
        self.assert_unlike(11, "", "if k in u\nif l in u\nif m in t\nexchange k m\nend\nend\nend", twelve)
        # 13 is a prime number above 12, so that no class has 13 worlds.
        yard = Yard(list("st"), {name: 1 if at < 7 else 2 for at, name in enumerate("klmnopqrx")})
        more = World.from_row(yard, "sssssstst")
        self.assert_error(TooMany, {"many": 14, "limit": 12}, first_unlike, (), (), more)
        self.assert_error(BadNumber, {"number": 61}, first_unlike, (), (), more, steps=61)


class Programs(Case):
    """as_program"""

    def test_deeds(self):
        self.assert_answer((), as_program, [])
        self.assert_answer((("exchange", "k", "m"),), as_program, [("k", "m")])
        deeds = [("m", "k"), ("k", "k"), ("not", "in")]
        wanted = (("exchange", "m", "k"), ("exchange", "k", "k"), ("exchange", "not", "in"))
        self.assert_answer(wanted, as_program, deeds)
        self.assert_answer(wanted, as_program, tuple(deeds))
        self.assertEqual(parse_program(format_program(as_program([("m", "k")] * 40))), as_program([("m", "k")] * 40))

    def test_running_them(self):
        found, deeds = run(as_program([("m", "k"), ("t", "n")]), shown())
        self.assert_same(deeds, [("k", "m"), ("n", "t")])
        self.assertTrue(is_history(shown(), found, deeds))


class Stop(Exception):
    """The end of a slow run."""


class SlowRun:
    """Goes through the lines of the canonical text one by one, with a stack of the blocks that are open."""

    def __init__(self, program, world, steps):
        self.yard = world.yard
        self.table = world.table()
        self.lines = format_program(program).split("\n") if program else []
        self.left = steps
        self.deeds = []
        self.names = {}

    def told(self):
        try:
            at = 0
            stack = []
            while at < len(self.lines):
                at = self.line(at, stack)
        except Stop as stop:
            return stop.args[0]
        return "done", World(self.yard, self.table), self.deeds

    def line(self, at, stack):
        words = self.lines[at].split()
        word = words[0]
        if word in ("exchange", "bring"):
            self.step(at)
            names = [self.names.get(term, term) for term in (words[1], words[-1])]
            self.exchange(at, *names) if word == "exchange" else self.bring(at, *names)
        elif word == "if":
            if not self.test(at, words[1:]):
                at = self.matching(at, ("else", "end"))
        elif word == "else":
            at = self.matching(at, ("end",))
        elif word == "while":
            end = self.matching(at, ("end",))
            if self.test(at, words[1:]):
                stack.append(("while", at))
            else:
                at = end
        elif word == "until":
            if not self.test(at, words[1:]):
                return self.opening(at)
        elif word == "each":
            holder = self.names.get(words[3], words[3])
            if holder not in self.yard.holders:
                raise Stop(("refused", at + 1, ("unknown", holder), self.deeds))
            stack.append(("each", at, words[1], [box for box in self.yard.boxes if self.table[box] == holder]))
            return self.go_on(stack)
        elif word == "end" and self.lines[self.opening(at)].split()[0] in ("while", "each"):
            if stack[-1][0] == "while":
                return stack.pop()[1]
            return self.go_on(stack)
        return at + 1

    def go_on(self, stack):
        """Begin the body of the innermost each for its next box."""
        _, at, variable, boxes = stack[-1]
        if not boxes:
            stack.pop()
            self.names.pop(variable, None)
            return self.matching(at, ("end",)) + 1
        self.step(at)
        self.names[variable] = boxes.pop(0)
        return at + 1

    def indent(self, at):
        return len(self.lines[at]) - len(self.lines[at].lstrip())

    def matching(self, at, words):
        later = range(at + 1, len(self.lines))
        return [to for to in later if self.indent(to) == self.indent(at) and self.lines[to].split()[0] in words][0]

    def opening(self, at):
        heads = ("if", "while", "repeat", "each")
        return [to for to in range(at) if self.indent(to) == self.indent(at) and self.lines[to].split()[0] in heads][-1]

    def step(self, at):
        if self.left == 0:
            raise Stop(("out", at + 1, self.deeds))
        self.left -= 1

    def row(self):
        return tuple(self.table[box] for box in self.yard.boxes)

    def deed(self, first, second):
        return tuple(sorted((first, second))) in [deed for deed, _ in slow.deeds(self.yard, self.row())]

    def change(self, first, second):
        self.table[first], self.table[second] = self.table[second], self.table[first]
        self.deeds.append(tuple(sorted((first, second))))

    def exchange(self, at, first, second):
        if not self.deed(first, second):
            raise Stop(("refused", at + 1, None, self.deeds))
        self.change(first, second)

    def bring(self, at, box, holder):
        for name, known in ((box, self.yard.boxes), (holder, self.yard.holders)):
            if name not in known:
                raise Stop(("refused", at + 1, ("unknown", name), self.deeds))
        if self.table[box] == holder:
            return
        others = [other for other in self.yard.boxes if self.table[other] == holder and self.deed(box, other)]
        if not others:
            raise Stop(("refused", at + 1, ("nobody", box, holder), self.deeds))
        self.change(box, others[0])

    def test(self, at, words):
        self.step(at)
        first, word, second = [self.names.get(term, term) for term in words[-3:]]
        for name, known in ((first, self.yard.boxes), (second, self.yard.boxes if word == "like" else self.yard.holders)):
            if name not in known:
                raise Stop(("refused", at + 1, ("unknown", name), self.deeds))
        full = slow.weights(self.yard, self.row())
        if word == "like":
            found = full[first] == full[second]
        else:
            found = first != second and slow.holds(self.yard, self.row(), (word, first, second))
        return found == (len(words) % 2 == 1)


class AllTogether(Case):
    """Against going through the canonical text line by line."""

    def test_random_programs(self):
        chance = random.Random(29)
        worlds = [parse_world(text) for text in slow.CLASSES + [SHOWN, PLAIN]]
        ends = {}
        for _ in range(1500):
            world = chance.choice(worlds)
            program = self.with_names(random_program(chance), world.yard, chance)
            steps = chance.choice([0, 1, 2, 3, 5, 8, 13, 40, 60])
            if statements(program) > 40:
                continue
            told, wanted = outcome(program, world, steps=steps), SlowRun(program, world, steps).told()
            if wanted[0] == "refused" and wanted[2] is None:
                self.assertIn(told[2][0], ("unknown", "same", "inside", "unlike", "nailed", "sealed", "idle"))
                told = told[:2] + (None,) + told[3:]
            self.assert_same(told, wanted)
            ends.setdefault((told[0], len(told[-1]) > 0), []).append(told)
        self.assert_same(sorted(ends), [(word, more) for word in ("done", "out", "refused") for more in (False, True)])

    def with_names(self, program, yard, chance):
        """The program with names of the yard, now and then another one."""
        if isinstance(program, str):
            if program in ("k", "m", "not", "a1") or program == "in":
                return chance.choice(list(yard.holders) * 6 + ["none"])
            return program
        if program and isinstance(program[0], str):
            word = program[0]
            if word == "each":
                return word, program[1], self.with_names(program[2], yard, chance), self.with_names(program[3], yard, chance)
            return (word,) + tuple(self.with_names(part, yard, chance) for part in program[1:])
        return tuple(self.with_names(part, yard, chance) for part in program)


class Answers(Case):
    """[4]: each answer and each error has a new list"""

    def test_lists(self):
        for text in ("exchange n t", "exchange n t\nexchange z z", "while n like t\nexchange n t\nend"):
            program = parse_program(text)
            first = outcome(program, shown())
            wanted = list(first[-1])
            first[-1].clear()
            self.assert_same(outcome(program, shown())[-1], wanted)


if __name__ == "__main__":
    unittest.main()
