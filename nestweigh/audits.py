"""What books tell: which claims hold [76], how books differ, and their texts [77], [78]."""

from nestweigh.books import Book
from nestweigh.claims import require_claim
from nestweigh.classes import count
from nestweigh.entries import entry_line, read_entry
from nestweigh.errors import BadNumber, BadText, NestError
from nestweigh.holding import full_weight, is_within
from nestweigh.may import may_hold
from nestweigh.names import is_number
from nestweigh.texts import format_world, parse_world
from nestweigh.yards import is_holder


def claim_holds(world, claim):
    """Tell whether the claim holds in the world [76]."""
    require_claim(claim)
    word = claim[0]
    if word == "count":
        return count(world) == claim[1]
    _, box, other = claim
    yard = world.yard
    if not yard.is_box(box):
        return False
    if word == "weighs":
        return full_weight(world, box) == other
    if not is_holder(yard, other):
        return False
    if word == "in":
        return world.holder(box) == other
    if word == "within":
        return is_within(world, box, other)
    return other in may_hold(world, box)


def worlds_of(book):
    """Return the origin and the world after each entry."""
    return book.worlds()


def standing(book):
    """Return for each claim whether it holds in the world of the book."""
    return [claim_holds(book.world, claim) for claim in book.claims()]


def broken_at(book, number):
    """Return the index of the first entry after which the claim does not hold, None if there is none.

    The entries from the one that files the claim are asked.
    """
    entries, worlds = book.entries(), book.worlds()
    filed = [at for at, entry in enumerate(entries) if entry[0] == "file"]
    if not is_number(number, 0, len(filed) - 1):
        raise BadNumber(number)
    claim = entries[filed[number]][1]
    for at in range(filed[number], len(entries)):
        if not claim_holds(worlds[at + 1], claim):
            return at
    return None


def audit(book):
    """Return the number and the index for each claim that did not always hold, ascending."""
    found = [(number, broken_at(book, number)) for number in range(len(book.claims()))]
    return [(number, at) for number, at in found if at is not None]


def compare(first, second):
    """Return None if the origins and the entries are equal, otherwise where they differ first."""
    if first.origin != second.origin:
        return ("origin",)
    ours, theirs = first.entries(), second.entries()
    both = min(len(ours), len(theirs))
    for at in range(both):
        if ours[at] != theirs[at]:
            return "entry", at
    return ("entry", both) if len(ours) != len(theirs) else None


def format_book(book):
    """Return the text [77] of a book."""
    lines = [format_world(book.origin), "then"] + [entry_line(entry) for entry in book.entries()]
    return "\n".join(lines)


def parse_book(text):
    """Return a new book with this text; raise BadText if there is none [78]."""
    lines = text.split("\n")
    if "then" not in lines:
        raise BadText(len(lines) + 1, "then")
    then = lines.index("then")
    book = Book(parse_world("\n".join(lines[:then])))
    for number, line in enumerate(lines[then + 1:], start=then + 2):
        entry = read_entry(line)
        if entry is None:
            raise BadText(number, "words")
        try:
            book.do(entry)
        except NestError:
            raise BadText(number, "refused") from None
    return book
