"""nestweigh/books.py: points [2], [3], [4], [75] and [76]."""

import unittest

from nestweigh.audits import worlds_of
from nestweigh.books import Book
from nestweigh.deeds import exchange
from nestweigh.errors import (
    BadClaim,
    BadCount,
    BadName,
    BadNumber,
    BadWeight,
    Broken,
    Idle,
    Inside,
    Nailed,
    NoChange,
    NotEmpty,
    NothingDone,
    OrderRefused,
    OutOfSteps,
    Same,
    Sealed,
    TooMany,
    Twice,
    Unknown,
    Unlike,
)
from nestweigh.orders import parse_program
from nestweigh.texts import format_world, parse_world
from nestweigh.worlds import World
from nestweigh.yards import Yard
from tests.support import Case, shape

SHOWN = "shelf a\nshelf b\nbox k 3 in a\nbox m 2 in b\nbox n 1 in m\nbox t 1 in a"
# c is sealed, f is nailed, g lies under the seal, h is sealed and empty.
MARKED = (
    "shelf a\nshelf b\nshelf c sealed\nbox d 1 in a\nbox e 1 in b\nbox f 1 in b nailed\nbox g 1 in c\nbox h 1 in b sealed\n"
    "box i 5 in a\nbox j 1 in i"
)
NO_WEIGHTS = [0, -1, 10**9 + 1, 10**3999, True, False, None, "1", ""]
NO_STEPS = [-1, 61, 10**3999, -10**3999, True, False, "0", ""]
BAD_NAMES = ["", "A", "1a", "a b", "abcdefghi", "a-"]
NO_BOXES = ["a", "c", "z", "", "D", "no name"]
NO_HOLDERS = ["z", "", "A", "no name"]
CLAIMS = [
    ("in", "d", "a"), ("within", "j", "a"), ("may", "d", "b"), ("weighs", "i", 6), ("count", 4), ("in", "d", "d"),
    ("within", "zz", "yy"), ("may", "a", "a"), ("weighs", "a", 0), ("weighs", "zz", 10**12), ("count", 0),
    ("count", 10**12),
]
NO_CLAIMS = [
    (), ("in",), ("in", "d"), ("in", "d", "a", "b"), ("on", "d", "a"), ("In", "d", "a"), ("", "d", "a"), ("in", "D", "a"),
    ("in", "d", ""), ("within", "no name", "a"), ("within", "d", "abcdefghi"), ("may", "1", "a"), ("may", "d", "A"),
    ("in", 1, "a"), ("in", "d", 1), ("in", True, "a"), ("within", "d", False), ("may", 0, 0), ("weighs", "d"),
    ("weighs", "d", "1"), ("weighs", "d", -1), ("weighs", "d", 10**12 + 1), ("weighs", "d", True), ("weighs", "d", False),
    ("weighs", "D", 1), ("weighs", 1, 1), ("weighs", "d", 1, 1), ("weighs", 1), ("weighs", True, 1), ("count",),
    ("count", -1), ("count", 10**12 + 1), ("count", "1"), ("count", True), ("count", False), ("count", 1, 1),
    ("count", "d", 1), ("count", 10**3999), ("d", "in", "a"), (1, "d", "a"), (True, 1), (0,), (1, 2, 3), ("in", "d", "a", 1),
    ("exchange", "d", "e"), ("file", "d", "a"), ("not", "d", "a"), ("like", "d", "e"), ("count", "count"),
]


def book(text=MARKED):
    return Book(parse_world(text))


def full(many=100):
    """A book with so many entries."""
    found = book()
    for _ in range(many):
        found.file(("count", 1))
    return found


def twelve():
    names = [f"b{at:02}" for at in range(12)]
    return Book(World(Yard(["s"], {name: 1 for name in names}), {name: "s" for name in names}))


class BookCase(Case):
    def assert_added(self, text, call, entry, world, answer=None):
        """The call on a book of the text adds this entry and leads to the world of this text."""
        found = book(text)
        found.file(("count", 0))
        before = found.world
        self.assert_same(call(found), answer)
        self.assert_same(found.entries(), [("file", ("count", 0)), entry])
        self.assert_same(len(found), 2)
        self.assert_same(format_world(found.world), world)
        self.assert_same(found.origin, parse_world(text))
        self.assert_same(before, parse_world(text))
        # The same entry, done anew.
        again = book(text)
        again.file(("count", 0))
        self.assert_same(again.do(entry), None)
        self.assert_same(shape(again), shape(found))
        self.assert_same(shape(found.replayed()), shape(found))
        self.assert_same(found.undo(), entry)
        self.assert_same((found.world, found.entries(), len(found)), (before, [("file", ("count", 0))], 1))

    def assert_raises_alone(self, error, attributes, found, call):
        """The call raises this error, and the book is as it was."""
        before, worlds = shape(found), shape(worlds_of(found))
        self.assert_error(error, attributes, call)
        self.assert_same((shape(found), shape(worlds_of(found))), (before, worlds))


class Books(BookCase):
    """[75]: the class Book"""

    def test_an_empty_book(self):
        found = book()
        self.assert_same((found.world, found.origin, found.steps), (parse_world(MARKED), parse_world(MARKED), 40))
        self.assert_same((len(found), found.entries(), found.claims()), (0, [], []))

    def test_steps(self):
        found = book()
        for steps in (0, 60, 1, 40):
            found.steps = steps
            self.assert_same(found.steps, steps)
        for steps in NO_STEPS + [None]:
            self.assert_raises_alone(BadNumber, {"number": steps}, found, lambda: setattr(found, "steps", steps))
        self.assert_same(found.steps, 40)

    def test_properties_that_are_not_assigned(self):
        for name in ("world", "origin"):
            with self.assertRaises(AttributeError):
                setattr(book(), name, None)

    def test_exchange(self):
        for first, second in (("d", "e"), ("e", "d")):
            self.assert_added(
                MARKED, lambda found: found.exchange(first, second), ("exchange", "d", "e"),
                MARKED.replace("d 1 in a", "d 1 in b").replace("e 1 in b", "e 1 in a"),
            )

    def test_errors_of_exchange(self):
        for first, second, error, told in [
            ("z", "d", Unknown, {"name": "z"}), ("d", "a", Unknown, {"name": "a"}), ("d", "d", Same, {"name": "d"}),
            ("j", "i", Inside, {"inner": "j", "outer": "i"}), ("e", "f", Nailed, {"name": "f"}), ("e", "h", Idle, {"name": "b"}),
            ("g", "d", Sealed, {"name": "c"}),
            ("d", "i", Unlike, {"first": "d", "second": "i", "first_weight": 1, "second_weight": 6}),
        ]:
            found = full(3)
            self.assert_raises_alone(error, told, found, lambda: found.exchange(first, second))
            self.assert_raises_alone(error, told, found, lambda: found.do(("exchange", first, second)))

    def test_carry(self):
        world = MARKED.replace("d 1 in a", "d 1 in b").replace("e 1 in b", "e 1 in i").replace("j 1 in i", "j 1 in a")
        for deeds in ([("e", "d"), ("j", "e")], (("d", "e"), ("e", "j"))):
            self.assert_added(MARKED, lambda found: found.carry(deeds), ("run", (("d", "e"), ("e", "j"))), world)
        self.assert_added(MARKED, lambda found: found.carry([]), ("run", ()), MARKED)
        self.assert_added(MARKED, lambda found: found.carry([("e", "d")] * 500), ("run", (("d", "e"),) * 500), MARKED)

    def test_errors_of_carry(self):
        for deeds, at, reason in [
            ([("d", "e"), ("z", "d")], 1, ("unknown", "z")), ([("f", "d")], 0, ("nailed", "f")),
            ([("d", "e"), ("e", "d"), ("h", "e")], 2, ("idle", "b")),
        ]:
            found = full(3)
            self.assert_raises_alone(Broken, {"at": at, "reason": reason}, found, lambda: found.carry(deeds))
            self.assert_raises_alone(Broken, {"at": at, "reason": reason}, found, lambda: found.do(("run", tuple(deeds))))

    def test_run(self):
        program = parse_program("each X in b\n  if X like e\n    if not X in a\n      bring d into i\n    end\n  end\nend")
        world = MARKED.replace("d 1 in a", "d 1 in i").replace("j 1 in i", "j 1 in a")
        found = book()
        deeds = found.run(program)
        self.assert_same(deeds, [("d", "j")])
        deeds.clear()
        self.assert_same(found.entries(), [("run", (("d", "j"),))])
        self.assert_same(format_world(found.world), world)
        self.assert_same(found.run(()), [])
        self.assert_same(found.entries(), [("run", (("d", "j"),)), ("run", ())])

    def test_steps_of_a_run(self):
        program = parse_program("exchange d e\nexchange d e\nexchange d e")
        for steps, told in [(None, 3), (3, 2), (60, 0), (None, 60)]:
            found = book()
            found.steps = told
            self.assert_same(found.run(program, steps=steps), [("d", "e")] * 3)
            self.assert_same(found.steps, told)
        found = full(3)
        for steps, told in [(None, 2), (2, 60), (0, 3), (1, 40)]:
            found.steps = told
            many = told if steps is None else steps
            self.assert_raises_alone(
                OutOfSteps, {"line": many + 1, "deeds": [("d", "e")] * many}, found, lambda: found.run(program, steps=steps)
            )
        self.assert_same(len(book().run(parse_program("exchange d e\n" * 40))), 40)

    def test_errors_of_run(self):
        found = full(3)
        for steps in NO_STEPS:
            self.assert_raises_alone(
                BadNumber, {"number": steps}, found, lambda: found.run(parse_program("exchange z z"), steps=steps)
            )
        program = parse_program("exchange d e\nexchange d z")
        told = {"line": 2, "reason": ("unknown", "z"), "deeds": [("d", "e")]}
        self.assert_raises_alone(OrderRefused, told, found, lambda: found.run(program))

    def test_bring(self):
        for nailed in (False, True):
            for sealed in (False, True):
                marks = " nailed" * nailed + " sealed" * sealed
                world = MARKED + f"\nbox z 7 in j{marks}"
                self.assert_added(
                    MARKED, lambda found: found.bring("z", 7, "j", nailed=nailed, sealed=sealed),
                    ("bring", "z", 7, "j", nailed, sealed), world,
                )
        self.assert_added(
            MARKED, lambda found: found.bring("aa", 10**9, "a"), ("bring", "aa", 10**9, "a", False, False),
            MARKED.replace("box d", "box aa 1000000000 in a\nbox d"),
        )

    def test_errors_of_bring(self):
        found = full(3)
        for name in BAD_NAMES:
            self.assert_raises_alone(BadName, {"name": name}, found, lambda: found.bring(name, 0, "z"))
        for name in ("a", "c", "d", "j"):
            self.assert_raises_alone(Twice, {"name": name}, found, lambda: found.bring(name, 0, "z"))
        for weight in NO_WEIGHTS:
            self.assert_raises_alone(BadWeight, {"weight": weight}, found, lambda: found.bring("z", weight, "z"))
        for name in NO_HOLDERS + ["y"]:
            self.assert_raises_alone(Unknown, {"name": name}, found, lambda: found.bring("z", 1, name))
        for name in ("c", "h"):
            self.assert_raises_alone(Sealed, {"name": name}, found, lambda: found.bring("z", 1, name))
            self.assert_raises_alone(Sealed, {"name": name}, found, lambda: found.do(("bring", "z", 1, name, True, True)))

    def test_twelve_boxes_and_a_thirteenth(self):
        found = twelve()
        self.assert_raises_alone(BadCount, {"what": "boxes", "many": 13}, found, lambda: found.bring("z", 1, "s"))
        self.assert_raises_alone(Unknown, {"name": "q"}, found, lambda: found.bring("z", 1, "q"))
        found.take("b05")
        found.bring("z", 1, "b11")
        self.assert_same(len(found.world), 12)
        found.seal("b03")
        self.assert_raises_alone(Sealed, {"name": "b03"}, found, lambda: found.bring("y", 1, "b03"))
        self.assert_raises_alone(BadCount, {"what": "boxes", "many": 13}, found, lambda: found.bring("y", 1, "s"))

    def test_take(self):
        self.assert_added(MARKED, lambda found: found.take("j"), ("take", "j"), MARKED.replace("\nbox j 1 in i", ""))
        # Its seal goes with it.
        self.assert_added(MARKED, lambda found: found.take("h"), ("take", "h"), MARKED.replace("\nbox h 1 in b sealed", ""))
        found = book()
        found.take("h")
        found.bring("h", 2, "a")
        self.assert_same(found.world.yard.is_sealed("h"), False)

    def test_errors_of_take(self):
        found = full(3)
        for name in NO_BOXES:
            self.assert_raises_alone(Unknown, {"name": name}, found, lambda: found.take(name))
        self.assert_raises_alone(NotEmpty, {"name": "i"}, found, lambda: found.take("i"))
        self.assert_raises_alone(Nailed, {"name": "f"}, found, lambda: found.take("f"))
        self.assert_raises_alone(Sealed, {"name": "c"}, found, lambda: found.take("g"))
        for text, error, told in [
            ("shelf a sealed\nbox k 1 in a nailed\nbox m 1 in k", NotEmpty, {"name": "k"}),
            ("shelf a sealed\nbox k 1 in a nailed", Nailed, {"name": "k"}), ("shelf a sealed\nbox k 1 in a", Sealed, {"name": "a"}),
            ("shelf a\nbox k 1 in a", BadCount, {"what": "boxes", "many": 0}),
            ("shelf a\nbox k 1 in a sealed", BadCount, {"what": "boxes", "many": 0}),
        ]:
            other = book(text)
            self.assert_raises_alone(error, told, other, lambda: other.take("k"))

    def test_weigh(self):
        for name, old in [("d", "d 1 in a"), ("f", "f 1 in b nailed"), ("g", "g 1 in c"), ("i", "i 5 in a")]:
            for weight in (10**9, 2):
                new = old.replace(old.split()[1], str(weight), 1)
                self.assert_added(MARKED, lambda found: found.weigh(name, weight), ("weigh", name, weight), MARKED.replace(old, new))

    def test_errors_of_weigh(self):
        found = full(3)
        for name in NO_BOXES:
            self.assert_raises_alone(Unknown, {"name": name}, found, lambda: found.weigh(name, 0))
        for weight in NO_WEIGHTS:
            self.assert_raises_alone(BadWeight, {"weight": weight}, found, lambda: found.weigh("d", weight))
        self.assert_raises_alone(NoChange, {"name": "d"}, found, lambda: found.weigh("d", 1))
        found.weigh("d", 2)
        self.assert_raises_alone(NoChange, {"name": "d"}, found, lambda: found.weigh("d", 2))
        found.weigh("d", 1)

    def test_nails(self):
        self.assert_added(MARKED, lambda found: found.nail("d"), ("nail", "d"), MARKED.replace("d 1 in a", "d 1 in a nailed"))
        self.assert_added(MARKED, lambda found: found.nail("h"), ("nail", "h"), MARKED.replace("b sealed", "b nailed sealed"))
        self.assert_added(MARKED, lambda found: found.draw("f"), ("draw", "f"), MARKED.replace(" nailed", ""))
        found = full(3)
        for name in NO_BOXES:
            self.assert_raises_alone(Unknown, {"name": name}, found, lambda: found.nail(name))
            self.assert_raises_alone(Unknown, {"name": name}, found, lambda: found.draw(name))
        self.assert_raises_alone(NoChange, {"name": "f"}, found, lambda: found.nail("f"))
        self.assert_raises_alone(NoChange, {"name": "d"}, found, lambda: found.draw("d"))

    def test_seals(self):
        self.assert_added(MARKED, lambda found: found.seal("a"), ("seal", "a"), MARKED.replace("shelf a", "shelf a sealed"))
        self.assert_added(MARKED, lambda found: found.seal("f"), ("seal", "f"), MARKED.replace("nailed", "nailed sealed"))
        self.assert_added(MARKED, lambda found: found.unseal("c"), ("unseal", "c"), MARKED.replace("c sealed", "c"))
        self.assert_added(MARKED, lambda found: found.unseal("h"), ("unseal", "h"), MARKED.replace("b sealed", "b"))
        found = full(3)
        for name in NO_HOLDERS:
            self.assert_raises_alone(Unknown, {"name": name}, found, lambda: found.seal(name))
            self.assert_raises_alone(Unknown, {"name": name}, found, lambda: found.unseal(name))
        for name in ("c", "h"):
            self.assert_raises_alone(NoChange, {"name": name}, found, lambda: found.seal(name))
        for name in ("a", "d"):
            self.assert_raises_alone(NoChange, {"name": name}, found, lambda: found.unseal(name))

    def test_what_was_taken_may_be_brought_again(self):
        found = book()
        found.take("j")
        found.bring("j", 9, "d", sealed=True)
        self.assert_same(found.world.yard.own("j"), 9)
        self.assert_raises_alone(Unknown, {"name": "z"}, found, lambda: found.take("z"))
        found.undo()
        self.assert_raises_alone(Unknown, {"name": "j"}, found, lambda: found.weigh("j", 2))
        found.undo()
        self.assert_same(found.world, parse_world(MARKED))


class Claims(BookCase):
    """[76]: file"""

    def test_numbers(self):
        found = book()
        for number, claim in enumerate(CLAIMS):
            self.assert_same(found.file(claim), number)
            found.weigh("d", number + 2)
        self.assert_same(found.claims(), CLAIMS)
        self.assert_same([entry for entry in found.entries() if entry[0] == "file"], [("file", claim) for claim in CLAIMS])

    def test_each_form(self):
        for claim in CLAIMS:
            self.assert_added(MARKED, lambda found: found.file(claim), ("file", claim), MARKED, 1)

    def test_what_is_not_a_claim(self):
        for claim in NO_CLAIMS:
            found = full(3)
            self.assert_raises_alone(BadClaim, {"claim": claim}, found, lambda: found.file(claim))
            self.assert_raises_alone(BadClaim, {"claim": claim}, found, lambda: found.do(("file", claim)))

    def test_equal_claims_each_have_a_number(self):
        found = book()
        for number in range(3):
            self.assert_same(found.file(("in", "d", "a")), number)
        found.undo()
        self.assert_same(found.file(("count", 2)), 2)
        self.assert_same(found.claims(), [("in", "d", "a")] * 2 + [("count", 2)])


class Limits(BookCase):
    def test_a_hundred_entries_and_the_hundred_first(self):
        found = full()
        self.assert_same(len(found), 100)
        told = {"many": 101, "limit": 100}
        for call in [
            lambda: found.exchange("d", "e"), lambda: found.exchange("z", "z"), lambda: found.carry([("z", "z")]),
            lambda: found.carry([]), lambda: found.run(parse_program("exchange z z"), steps=-1), lambda: found.run((), steps=None),
            lambda: found.bring("A", 0, "z"), lambda: found.take("z"), lambda: found.weigh("z", 0), lambda: found.nail("z"),
            lambda: found.draw("z"), lambda: found.seal("zz"), lambda: found.unseal("zz"), lambda: found.file(()),
            lambda: found.file(("count", 1)), lambda: found.do(("exchange", "d", "e")), lambda: found.do(("file", ())),
            lambda: found.nail("d"), lambda: found.draw("f"), lambda: found.seal("a"), lambda: found.unseal("c"),
            lambda: found.take("j"), lambda: found.weigh("d", 2), lambda: found.bring("z", 1, "a"),
        ]:
            self.assert_raises_alone(TooMany, told, found, call)
        found.undo()
        found.exchange("d", "e")
        self.assert_same(len(found), 100)
        self.assert_same(len(found.replayed()), 100)
        self.assert_same(len(found.twin()), 100)

    def test_undo(self):
        found = book()
        self.assert_raises_alone(NothingDone, {}, found, found.undo)
        found.exchange("d", "e")
        found.take("j")
        found.file(("count", 1))
        for entry in [("file", ("count", 1)), ("take", "j"), ("exchange", "d", "e")]:
            self.assert_same(found.undo(), entry)
        self.assert_same(found.world, parse_world(MARKED))
        self.assert_raises_alone(NothingDone, {}, found, found.undo)


class Twins(BookCase):
    """[4]: a change of one book changes no other object"""

    def changed(self):
        found = book()
        found.steps = 7
        found.exchange("d", "e")
        found.file(("in", "d", "b"))
        found.bring("z", 2, "i", nailed=True)
        found.run(parse_program("bring d into a"))
        return found

    def test_twin_and_replayed(self):
        for copy in (Book.twin, Book.replayed):
            found = self.changed()
            before = shape(found)
            other = copy(found)
            self.assertIsNot(other, found)
            self.assertIs(type(other), Book)
            self.assert_same(shape(other), before)
            self.assert_same(other.steps, 7)
            other.undo()
            other.nail("d")
            other.file(("count", 5))
            other.steps = 9
            self.assert_same(shape(found), before)
            after = shape(other)
            found.undo()
            found.undo()
            found.steps = 11
            found.seal("a")
            self.assert_same(shape(other), after)

    def test_replayed_does_each_entry_again(self):
        found = self.changed()
        found.carry([("e", "d"), ("d", "e")])
        found.weigh("e", 3)
        found.unseal("c")
        found.take("h")
        found.draw("f")
        found.seal("a")
        self.assert_same(worlds_of(found.replayed()), worlds_of(found))
        self.assert_same(shape(found.replayed().replayed()), shape(found))
        # More steps than the property allows were told when the program was run.
        found.steps = 40
        found.unseal("a")
        found.run(parse_program("exchange d f\nexchange d f"), steps=60)
        found.steps = 0
        self.assert_same(shape(found.replayed()), shape(found))

    def test_answers_share_nothing(self):
        found = self.changed()
        before = shape(found)
        found.entries().clear()
        found.claims().append(None)
        worlds_of(found).clear()
        self.assert_same(shape(found), before)
        deeds = [("d", "e")]
        found.carry(deeds)
        deeds.append(("z", "z"))
        self.assert_same(found.entries()[-1], ("run", (("d", "e"),)))

    def test_worlds_that_were_asked_for_stay(self):
        found = book()
        before = found.world
        found.exchange("d", "e")
        after = found.world
        found.undo()
        self.assert_same((before, found.world), (parse_world(MARKED), parse_world(MARKED)))
        self.assert_same(after, exchange(before, "d", "e"))


if __name__ == "__main__":
    unittest.main()
