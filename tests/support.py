"""What the tests have in common."""

import copy
import unittest

from nestweigh.books import Book
from nestweigh.diaries import Diary
from nestweigh.pieces import Surrounding


def shape(value):
    """The value together with the exact kinds of all its parts, the order of dicts included.

    Objects without an == are taken apart: they are equal if equal calls made them [4].
    """
    if type(value) in (list, tuple):
        return type(value).__name__, [shape(part) for part in value]
    if type(value) is dict:
        return "dict", [(shape(key), shape(part)) for key, part in value.items()]
    if type(value) is Diary:
        return "Diary", shape([value.world, value.gaps(), value.sightings(), value.from_start])
    if type(value) is Book:
        return "Book", shape([value.origin, value.world, value.entries(), value.claims(), value.steps, len(value)])
    if type(value) is Surrounding:
        return "Surrounding", shape([value.world, value.places()])
    return type(value).__name__, value


def spoil(value):
    """Empty the value, if it is a list or a dict, and all lists and dicts in it."""
    if type(value) in (list, tuple, dict):
        for part in list(value.values()) if type(value) is dict else value:
            spoil(part)
    if type(value) in (list, dict):
        value.clear()


# What may stand in the place of a part of a judged thing [5], nested up to four deep.
WEIRD = [
    None, "", "x", "no name", 0, -1, 10**3999, [], (), [None], ("a", "b"), ["a", "b"], ("a", "b", "c"), [("a", "b")],
    ((("a",),),), [[[["a"]]]], (((("a", 1),),),), [(["a", None],)],
]


def changed_parts(thing, part):
    """The thing with the part put in the place of each of its inner parts, at each depth."""
    for at, inner in enumerate(thing):
        before, after = list(thing[:at]), list(thing[at + 1:])
        yield type(thing)(before + [part] + after)
        if type(inner) in (list, tuple):
            for changed in changed_parts(inner, part):
                yield type(thing)(before + [changed] + after)


def other_kinds(thing):
    """The thing with each inner list made a tuple and each inner tuple made a list, one at a time."""
    for at, inner in enumerate(thing):
        if type(inner) in (list, tuple):
            before, after = list(thing[:at]), list(thing[at + 1:])
            yield type(thing)(before + [tuple(inner) if type(inner) is list else list(inner)] + after)
            for changed in other_kinds(inner):
                yield type(thing)(before + [changed] + after)


def other_lengths(thing):
    """The thing, and each inner part of it, with an item left out, doubled or put behind."""
    for at, inner in enumerate(thing):
        before, after = list(thing[:at]), list(thing[at + 1:])
        yield type(thing)(before + after)
        yield type(thing)(before + [inner, inner] + after)
        if type(inner) in (list, tuple):
            for changed in other_lengths(inner):
                yield type(thing)(before + [changed] + after)
    for part in WEIRD:
        yield type(thing)(list(thing) + [part])


def wrong_things(thing):
    """Things like a judged one with a part of another value, kind or length."""
    for part in WEIRD:
        for changed in changed_parts(thing, part):
            if changed != thing:
                yield changed
    yield from other_kinds(thing)
    yield from other_lengths(thing)


class Case(unittest.TestCase):
    """Checks answers and errors together with what point [4] says of all calls."""

    def assert_same(self, found, wanted):
        """Equal values of the very same kinds: True is not 1, a tuple is not a list."""
        self.assertEqual(shape(found), shape(wanted))

    def assert_answer(self, wanted, call, *args, **more):
        """The call gives this answer, anew each time, and changes no argument."""
        passed = copy.deepcopy((args, more))
        first = call(*args, **more)
        self.assert_same(first, wanted)
        spoil(first)
        second = call(*args, **more)
        self.assert_same(second, wanted)
        if type(first) in (list, dict):
            self.assertIsNot(first, second)
        self.assert_same((args, more), passed)

    def assert_error(self, error, attributes, call, *args, **more):
        """The call raises exactly this error with these attributes, and changes nothing."""
        passed = copy.deepcopy((args, more))
        for _ in range(2):
            with self.assertRaises(error) as caught:
                call(*args, **more)
            self.assertIs(type(caught.exception), error)
            found = {name: getattr(caught.exception, name) for name in attributes}
            self.assert_same(found, attributes)
        self.assert_same((args, more), passed)
