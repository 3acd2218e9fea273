"""nestweigh/audits.py: points [2], [3], [4], [15] and [76] to [78]."""

import random
import unittest

from nestweigh.audits import (
    audit,
    broken_at,
    claim_holds,
    compare,
    format_book,
    parse_book,
    standing,
    worlds_of,
)
from nestweigh.books import Book
from nestweigh.errors import BadClaim, BadNumber, BadText, NestError
from nestweigh.orders import parse_program
from nestweigh.texts import format_world, parse_world
from nestweigh.worlds import World
from nestweigh.yards import Yard
from tests import slow
from tests.support import Case, shape
from tests.test_books import CLAIMS, MARKED, NO_CLAIMS

SHOWN = "shelf a\nshelf b\nbox k 3 in a\nbox m 2 in b\nbox n 1 in m\nbox t 1 in a"
# The first line of an entry behind SHOWN and `then`.
FIRST = 8


def book(text=SHOWN):
    return Book(parse_world(text))


def written():
    """A book with an entry of each kind."""
    found = book(MARKED)
    found.exchange("e", "d")
    found.run(parse_program("bring d into i"))
    found.carry([("e", "d"), ("d", "e")])
    found.carry([])
    found.bring("z", 10**9, "a", nailed=True, sealed=True)
    found.bring("y", 1, "a")
    found.bring("x", 10, "y", nailed=True)
    found.bring("w", 9, "y", sealed=True)
    found.take("w")
    found.weigh("d", 25)
    found.nail("d")
    found.draw("f")
    found.seal("b")
    found.unseal("c")
    for claim in CLAIMS:
        found.file(claim)
    return found


WRITTEN = (
    "then\nexchange d e\nrun d j\nrun d e d e\nrun\nbring z 1000000000 into a nailed sealed\nbring y 1 into a\n"
    "bring x 10 into y nailed\nbring w 9 into y sealed\ntake w\nweigh d 25\nnail d\ndraw f\nseal b\nunseal c\n"
    "claim in d a\nclaim within j a\nclaim may d b\nclaim weighs i 6\nclaim count 4\nclaim in d d\nclaim within zz yy\n"
    "claim may a a\nclaim weighs a 0\nclaim weighs zz 1000000000000\nclaim count 0\nclaim count 1000000000000"
)


class Holding(Case):
    """[76]: claim_holds"""

    def test_each_form(self):
        world = parse_world(SHOWN)
        for claim, wanted in [
            (("in", "k", "a"), True), (("in", "k", "b"), False), (("in", "n", "b"), False), (("in", "n", "m"), True),
            (("within", "n", "b"), True), (("within", "n", "m"), True), (("within", "n", "a"), False),
            (("within", "m", "n"), False), (("may", "k", "b"), True), (("may", "k", "a"), True), (("may", "k", "m"), False),
            (("may", "n", "a"), True), (("may", "n", "b"), False), (("weighs", "m", 3), True), (("weighs", "m", 2), False),
            (("weighs", "k", 3), True), (("weighs", "k", 0), False), (("count", 4), True), (("count", 3), False),
            (("count", 0), False), (("weighs", "n", 10**12), False),
        ]:
            self.assert_answer(wanted, claim_holds, world, claim)

    def test_names_that_are_not_there(self):
        world = parse_world(SHOWN)
        for word in ("in", "within", "may"):
            for box, holder in [
                ("z", "a"), ("k", "z"), ("z", "z"), ("a", "k"), ("a", "b"), ("a", "a"), ("k", "k"), ("m", "m"), ("z", "y"),
            ]:
                self.assert_answer(False, claim_holds, world, (word, box, holder))
        for name in ("a", "b", "z"):
            for number in (0, 1, 3, 4):
                self.assert_answer(False, claim_holds, world, ("weighs", name, number))

    def test_great_classes(self):
        names = [f"b{at:02}" for at in range(12)]
        world = World(Yard(list("stuv"), {name: 1 for name in names}), dict(zip(names, "ssstttuuuvvv")))
        self.assert_answer(True, claim_holds, world, ("count", 369600))
        self.assert_answer(True, claim_holds, world, ("may", "b00", "v"))

    def test_what_is_not_a_claim(self):
        for claim in NO_CLAIMS:
            self.assert_error(BadClaim, {"claim": claim}, claim_holds, parse_world(MARKED), claim)

    def test_all_worlds_of_small_yards(self):
        for text in slow.CLASSES[:6] + [SHOWN]:
            world = parse_world(text)
            yard = world.yard
            rows = list(slow.distances(yard, world.row))
            full = slow.weights(yard, world.row)
            for box in yard.holders + ("zz",):
                for holder in yard.holders + ("zz",):
                    known = box in yard.boxes and holder in yard.holders and box != holder
                    for word in ("in", "within"):
                        wanted = known and slow.holds(yard, world.row, (word, box, holder))
                        self.assert_same(claim_holds(world, (word, box, holder)), wanted)
                    may = known and holder in {dict(zip(yard.boxes, row))[box] for row in rows}
                    self.assert_same(claim_holds(world, ("may", box, holder)), may)
                for number in range(8):
                    self.assert_same(claim_holds(world, ("weighs", box, number)), full.get(box) == number)
                    self.assert_same(claim_holds(world, ("count", number)), len(rows) == number)


class Audits(Case):
    """worlds_of, standing, broken_at and audit"""

    def broken(self):
        """A book with claims that break, break and hold again, hold, and never hold."""
        found = book()
        found.file(("in", "k", "a"))
        found.exchange("k", "m")
        found.file(("in", "k", "a"))
        found.file(("count", 4))
        found.exchange("k", "m")
        found.file(("within", "n", "b"))
        found.file(("in", "k", "a"))
        found.nail("k")
        found.exchange("n", "t")
        found.file(("weighs", "z", 1))
        found.bring("z", 1, "t")
        return found

    def test_worlds_of(self):
        found = self.broken()
        texts = [SHOWN] * 2 + [SHOWN.replace("k 3 in a", "k 3 in b").replace("m 2 in b", "m 2 in a")] * 3 + [SHOWN] * 3
        texts.append(SHOWN.replace("k 3 in a", "k 3 in a nailed"))
        texts.append(texts[-1].replace("n 1 in m", "n 1 in a").replace("t 1 in a", "t 1 in m"))
        texts.append(texts[-1])
        texts.append(texts[-1] + "\nbox z 1 in t")
        self.assert_same([format_world(world) for world in worlds_of(found)], texts)
        self.assert_answer([parse_world(text) for text in texts], worlds_of, found)
        self.assert_answer([parse_world(SHOWN)], worlds_of, book())

    def test_standing(self):
        self.assert_answer([True, True, False, False, True, True], standing, self.broken())
        self.assert_answer([], standing, book())

    def test_broken_at(self):
        found = self.broken()
        # Number 1 does not hold when it is filed; number 0 breaks and holds again; number 5 begins to hold later.
        for number, wanted in enumerate([1, 2, 7, 8, None, 9]):
            self.assert_answer(wanted, broken_at, found, number)
        self.assert_answer([(0, 1), (1, 2), (2, 7), (3, 8), (5, 9)], audit, found)
        self.assert_answer([], audit, book())
        found = book()
        found.exchange("k", "m")
        found.file(("in", "k", "b"))
        self.assert_answer(None, broken_at, found, 0)
        self.assert_answer([], audit, found)
        found.exchange("k", "m")
        self.assert_answer([(0, 2)], audit, found)
        found.undo()
        self.assert_answer([], audit, found)

    def test_numbers_of_no_claim(self):
        for number in (-1, 6, 7, -6, 10**3999, -10**3999):
            self.assert_error(BadNumber, {"number": number}, broken_at, self.broken(), number)
        for number in (0, -1, 1):
            self.assert_error(BadNumber, {"number": number}, broken_at, book(), number)

    def test_names_that_come_and_go(self):
        found = book()
        found.file(("in", "z", "a"))
        found.bring("z", 1, "a")
        found.file(("in", "z", "a"))
        found.file(("may", "z", "m"))
        found.take("z")
        found.bring("z", 5, "a")
        self.assert_same(standing(found), [True, True, False])
        self.assert_same(audit(found), [(0, 0), (1, 4), (2, 4)])


class Comparing(Case):
    """compare"""

    def test_equal_books(self):
        self.assert_answer(None, compare, book(), book())
        self.assert_answer(None, compare, written(), written())
        found = written()
        self.assert_answer(None, compare, found, found.twin())
        other = written()
        other.steps = 1
        self.assert_answer(None, compare, found, other)
        # A run and the same deeds carried are one entry.
        first, second = book(), book()
        first.run(parse_program("exchange m k"))
        second.carry([("m", "k")])
        self.assert_answer(None, compare, first, second)
        second.undo()
        second.exchange("k", "m")
        self.assert_answer(("entry", 0), compare, first, second)

    def test_other_origins(self):
        for text in [SHOWN.replace("k 3", "k 4"), SHOWN.replace("k 3 in a", "k 3 in b"), SHOWN.replace("shelf a", "shelf a sealed")]:
            first, second = book(), book(text)
            second.file(("count", 1))
            for one, other in ((first, second), (second, first)):
                self.assert_answer(("origin",), compare, one, other)
        # Worlds that are equal in the end do not matter.
        first, second = book(), book(SHOWN.replace("k 3", "k 4"))
        first.weigh("k", 4)
        self.assert_same(first.world, second.world)
        self.assert_answer(("origin",), compare, first, second)

    def test_other_entries(self):
        first = written()
        for at in range(len(first)):
            second = book(MARKED)
            for entry in first.entries()[:at]:
                second.do(entry)
            for one, other in ((first, second), (second, first)):
                self.assert_answer(("entry", at), compare, one, other)
            if at < 14:
                second.file(("count", 77))
                second.file(("count", 77))
                for one, other in ((first, second), (second, first)):
                    self.assert_answer(("entry", at), compare, one, other)
        first, second = book(), book()
        for found, name in ((first, "k"), (second, "m")):
            found.nail(name)
            found.file(("count", 1))
        self.assert_answer(("entry", 0), compare, first, second)


class Texts(Case):
    """[77]: format_book and parse_book"""

    def assert_read(self, text, wanted):
        found = parse_book(text)
        self.assertIs(type(found), Book)
        self.assert_same(shape(found), shape(wanted))
        self.assert_same(found.steps, 40)
        self.assert_same(worlds_of(found), worlds_of(wanted))
        self.assert_answer(text, format_book, found)
        self.assert_same(shape(parse_book(text)), shape(found))

    def test_example(self):
        found = book()
        self.assert_same(found.exchange("m", "k"), None)
        self.assert_same(found.file(("in", "k", "b")), 0)
        self.assert_same(format_book(found).split("\n")[6:], ["then", "exchange k m", "claim in k b"])

    def test_an_empty_book(self):
        self.assert_answer(SHOWN + "\nthen", format_book, book())
        self.assert_read(SHOWN + "\nthen", book())

    def test_each_kind_of_entry(self):
        self.assert_answer(MARKED + "\n" + WRITTEN, format_book, written())
        self.assert_read(MARKED + "\n" + WRITTEN, written())

    def test_steps_are_not_written(self):
        found = written()
        found.steps = 3
        self.assert_same(format_book(found), MARKED + "\n" + WRITTEN)
        self.assert_same(parse_book(format_book(found)).steps, 40)

    def test_names_that_are_fixed_words(self):
        text = "shelf then\nbox in 1 in then\nbox into 1 in then\nbox nailed 1 in into nailed"
        found = book(text)
        found.bring("sealed", 1, "nailed", nailed=True)
        found.bring("run", 2, "in", sealed=True)
        found.bring("x", 2, "nailed")
        found.bring("y", 2, "sealed")
        found.file(("in", "in", "in"))
        found.file(("weighs", "count", 0))
        found.take("run")
        wanted = (
            "\nthen\nbring sealed 1 into nailed nailed\nbring run 2 into in sealed\nbring x 2 into nailed\nbring y 2 into sealed\nclaim in in in\n"
            "claim weighs count 0\ntake run"
        )
        self.assert_same(format_book(found), text + wanted)
        self.assert_read(text + wanted, found)

    def test_a_hundred_entries(self):
        lines = ["claim count 4"] * 100
        found = parse_book("\n".join([SHOWN, "then"] + lines))
        self.assert_same(len(found), 100)
        self.assert_same(format_book(found), "\n".join([SHOWN, "then"] + lines))

    def test_five_hundred_deeds(self):
        found = book()
        found.carry([("k", "m")] * 500)
        self.assert_read(SHOWN + "\nthen\nrun" + " k m" * 500, found)

    def test_random_books(self):
        chance = random.Random(31)
        for _ in range(60):
            found = book(chance.choice([SHOWN, MARKED] + slow.CLASSES[:8]))
            for _ in range(chance.randint(0, 25)):
                self.try_entry(found, chance)
            self.assert_read(format_book(found), found)
            self.assert_same(compare(found, parse_book(format_book(found))), None)
            self.replay_slowly(found)
            wanted = [broken_at(found, number) for number in range(len(found.claims()))]
            self.assert_same(audit(found), [(number, at) for number, at in enumerate(wanted) if at is not None])

    def try_entry(self, found, chance):
        yard = found.world.yard
        box, other = chance.choice(yard.boxes), chance.choice(yard.holders)
        deeds = [deed for deed, _ in slow.deeds(yard, found.world.row)]
        entries = [
            ("bring", chance.choice(["z1", "z2", "z3", "zz"]), chance.randint(1, 3), other, chance.random() < 0.3, chance.random() < 0.2),
            ("take", box), ("weigh", box, chance.randint(1, 3)), ("nail", box), ("draw", box), ("seal", other), ("unseal", other),
            ("file", ("in", box, other)), ("file", ("within", box, other)), ("file", ("may", box, other)),
            ("file", ("weighs", box, chance.randint(1, 5))), ("file", ("count", chance.randint(1, 6))),
        ]
        if deeds:
            deed = chance.choice(deeds)
            entries += [("exchange", *deed), ("run", (deed, deed)), ("run", (deed,))] * 3
        try:
            found.do(chance.choice(entries))
        except NestError:
            pass

    def replay_slowly(self, found):
        """All worlds and all claims, entry by entry, with nothing but tables."""
        yard = found.origin.yard
        table, own = found.origin.table(), {box: yard.own(box) for box in yard.boxes}
        nailed, sealed = set(yard.nailed), set(yard.sealed)
        worlds = [found.origin]
        claims, broken = [], {}
        for at, entry in enumerate(found.entries()):
            word, parts = entry[0], entry[1:]
            for first, second in [parts] if word == "exchange" else parts[0] if word == "run" else []:
                table[first], table[second] = table[second], table[first]
            if word == "bring":
                name, own[parts[0]], table[parts[0]] = parts[:3]
                nailed |= {name} if parts[3] else set()
                sealed |= {name} if parts[4] else set()
            elif word == "take":
                del own[parts[0]], table[parts[0]]
                sealed.discard(parts[0])
            elif word == "weigh":
                own[parts[0]] = parts[1]
            elif word in ("nail", "draw"):
                nailed ^= {parts[0]}
            elif word in ("seal", "unseal"):
                sealed ^= {parts[0]}
            elif word == "file":
                claims.append(parts[0])
            worlds.append(World(Yard(yard.shelves, own, nailed=sorted(nailed), sealed=sorted(sealed)), table))
            for number, claim in enumerate(claims):
                if not claim_holds(worlds[-1], claim):
                    broken.setdefault(number, at)
        self.assert_same(worlds_of(found), worlds)
        self.assert_same(found.claims(), claims)
        self.assert_same(audit(found), sorted(broken.items()))
        self.assert_same(standing(found), [claim_holds(worlds[-1], claim) for claim in claims])


class Faults(Case):
    """[78]"""

    def assert_fault(self, text, line, fault):
        self.assert_error(BadText, {"line": line, "fault": fault}, parse_book, text)

    def test_then(self):
        for text in [
            "", SHOWN, SHOWN + "\n", "\n\n\n", SHOWN + "\nThen", SHOWN + "\nthen ", SHOWN + "\n then", SHOWN + "\nthen exchange k m",
            "shelf then\nbox k 1 in then", SHOWN + "\nexchange k m", "nothing",
        ]:
            self.assert_fault(text, len(text.split("\n")) + 1, "then")

    def test_faults_of_the_origin(self):
        for text, line, fault in [
            ("then", 1, "words"), ("then\nexchange k m", 1, "words"), ("then\nthen", 1, "words"), ("\nthen", 1, "words"),
            ("shelf a\nthen", 2, "empty"), ("shelf A\nthen", 1, "name"), ("shelf a\nbox k 0 in a\nthen", 2, "weight"),
            ("shelf a\nbox k 1 in z\nthen", 2, "holder"), ("shelf a\nbox k 1 in k\nthen", 2, "loop"),
            ("shelf a\nbox a 1 in a\nthen", 2, "twice"), ("shelf b\nshelf a\nbox k 1 in a\nthen", 2, "order"),
            ("shelf a\nbox k 1 in a\n\nthen", 3, "words"), (SHOWN + "\nexchange k m\nthen", 7, "words"),
            ("shelf a\nshelf b\nshelf c\nshelf d\nshelf e\nbox k 1 in a\nthen", 5, "many"),
        ]:
            self.assert_fault(text, line, fault)
            # The origin is read before all entries.
            self.assert_fault(text + "\nnonsense\n", line, fault)

    def test_words(self):
        for line in [
            "", " ", "then", "Then", "exchange", "exchange k", "exchange k m n", "exchange k  m", " exchange k m", "exchange k m ",
            "exchange m k", "exchange k k", "exchange K m", "exchange k 1m", "exchange a-b m", "exchange k abcdefghi", "exchange k m.", "exchange k zzzzzzzzz", "run k m.", "run k m n T", "Exchange k m",
            "run k", "run k m n", "run m k", "run k m m k", "run k k", "run k m K m", "run k m n", "run ", "run  ", "run k m ",
            "run k  m", "run" + " k m" * 501, "run" + " k m" * 500 + " k", "Run",
            "bring", "bring z 1 into", "bring z 1 in a", "bring z into a", "bring z 1 into a nail", "bring z 1 into a sealed nailed",
            "bring z 1 into a nailed nailed", "bring z 1 into a nailed sealed x", "bring z 1 into a ", "bring Z 1 into a",
            "bring z 1 into A", "bring  1 into a", "bring z  into a", "bring z 01 into a", "bring z 00 into a", "bring z -1 into a",
            "bring z +1 into a", "bring z 1.0 into a", "bring z 1x into a", "bring z 10000000000000 into a",
            "bring z " + "1" * 5000 + " into a", "bring z one into a", "bring 1 into a", "bring z 1 into a True False",
            "take", "take k m", "take K", "take ", "take  k", "takes k", "nail", "nail k m", "nail K", "draw", "draw k m", "draw 1",
            "seal", "seal a b", "seal A", "unseal", "unseal a b", "unseal a.", "unseal ",
            "weigh", "weigh k", "weigh k 1 2", "weigh k 01", "weigh k ", "weigh  1", "weigh K 1", "weigh k -1", "weigh k x",
            "weigh k 12345678901234", "weigh k 00000000000001", "weigh k 1_0", "weigh k 1 ",
            "claim", "claim ", "claim in", "claim in k", "claim in 5", "claim weighs 5", "claim within 5", "claim may 5", "claim 5", "claim in k a b", "claim in K a", "claim in k A", "claim in k ", "claim on k a",
            "claim within k", "claim within k a b", "claim within k 1", "claim may k", "claim may 1 a", "claim may k a ",
            "claim weighs", "claim weighs k", "claim weighs k 01", "claim weighs K 1", "claim weighs k x", "claim weighs k ",
            "claim weighs k -1", "claim weighs k 10000000000000", "claim weighs k 1 1", "claim weighs 1 1",
            "claim count", "claim count ", "claim count 01", "claim count x", "claim count -1", "claim count 12345678901234",
            "claim count 1 1", "claim count k 1", "claim k a", "claims in k a", "file in k a", "file", "in k a", "carry k m", "undo",
            "shelf c", "box z 1 in a", "k", "-",
        ]:
            self.assert_fault(f"{SHOWN}\nthen\n{line}", FIRST, "words")
            self.assert_fault(f"{SHOWN}\nthen\nexchange k m\n{line}\nnonsense", FIRST + 1, "words")

    def test_an_empty_line_at_the_end(self):
        self.assert_fault(SHOWN + "\nthen\n", FIRST, "words")
        self.assert_fault(SHOWN + "\nthen\nexchange k m\n", FIRST + 1, "words")

    def test_refused(self):
        for line in [
            "exchange k n", "exchange m n", "exchange k z", "exchange a k", "exchange y z", "run k n", "run k m n z", "run a b",
            "bring a 1 into b", "bring k 1 into b", "bring z 0 into a", "bring z 1000000001 into a", "bring z 9999999999999 into a",
            "bring z 1 into y", "bring k 0 into y", "take a", "take z", "take m", "weigh a 1", "weigh z 1", "weigh k 0", "weigh k 1000000001",
            "weigh k 9999999999999", "weigh k 3", "nail a", "nail z", "draw k", "draw a", "draw z", "seal z", "unseal a", "unseal z",
            "unseal k", "claim weighs k 1000000000001", "claim weighs z 9999999999999", "claim count 1000000000001",
            "claim count 9999999999999",
        ]:
            self.assert_fault(f"{SHOWN}\nthen\n{line}", FIRST, "refused")
            self.assert_fault(f"{SHOWN}\nthen\nclaim count 0\n{line}\nnonsense", FIRST + 1, "refused")
        for before, line in [
            ("nail k", "exchange k m"), ("nail k", "nail k"), ("seal a", "exchange k m"), ("seal a", "seal a"), ("seal a", "bring z 1 into a"),
            ("seal a", "take k"), ("nail t", "take t"), ("weigh k 4", "exchange k m"), ("take k", "take k"), ("take k", "exchange k m"),
            ("weigh k 4", "weigh k 4"), ("bring z 1 into a", "bring z 1 into b"),
        ]:
            self.assert_fault(f"{SHOWN}\nthen\n{before}\n{line}", FIRST + 1, "refused")
        self.assert_fault("shelf a\nbox k 1 in a\nthen\ntake k", 4, "refused")
        names = [f"b{at:02}" for at in range(12)]
        twelve = "shelf a\n" + "\n".join(f"box {name} 1 in a" for name in names)
        self.assert_fault(twelve + "\nthen\nbring z 1 into a", 15, "refused")

    def test_the_hundred_first_entry(self):
        lines = ["claim count 4"] * 100
        for line in ("claim count 4", "nail k", "run"):
            self.assert_fault("\n".join([SHOWN, "then"] + lines + [line, "nonsense"]), FIRST + 100, "refused")
        self.assert_fault("\n".join([SHOWN, "then"] + lines + ["nonsense"]), FIRST + 100, "words")
        self.assert_fault("\n".join([SHOWN, "then"] + lines + [""]), FIRST + 100, "words")

    def test_numbers_at_their_bounds(self):
        for line in [
            "weigh k 1", "weigh k 1000000000", "claim count 0", "claim count 1000000000000", "claim weighs k 0", "claim weighs a 1000000000000",
            "bring z 1000000000 into a",
        ]:
            text = f"{SHOWN}\nthen\n{line}"
            self.assert_same(format_book(parse_book(text)), text)

    def test_a_second_then(self):
        self.assert_fault(SHOWN + "\nthen\nthen", FIRST, "words")
        self.assert_fault(SHOWN + "\nthen\nexchange k m\nthen\nexchange k m", FIRST + 1, "words")

    def test_no_entry_of_a_refused_text_is_kept(self):
        text = f"{SHOWN}\nthen\nexchange k m\ntake z"
        for _ in range(2):
            self.assert_fault(text, FIRST + 1, "refused")
        self.assert_same(len(parse_book(f"{SHOWN}\nthen\nexchange k m")), 1)


if __name__ == "__main__":
    unittest.main()
