"""Slow reckonings of the document's words, to hold the answers of the program against.

A world is a row here; nothing of the program is used but what a yard says of itself.
"""

import itertools

from nestweigh.texts import parse_yard

# Yards with few boxes: without and with nails and seals, with equal and with different weights.
SMALL_YARDS = [
    "shelf a\nshelf b\nbox k 1\nbox m 1\nbox n 1",
    "shelf a\nshelf b\nbox k 2\nbox m 1\nbox n 1",
    "shelf a\nshelf b sealed\nbox k 1\nbox m 1\nbox n 1",
    "shelf a\nshelf b\nbox k 1\nbox m 1 nailed\nbox n 1",
    "shelf a\nshelf b\nbox k 2 sealed\nbox m 1\nbox n 1 nailed",
    "shelf a\nbox k 1\nbox m 1\nbox n 1\nbox t 2",
    "shelf a\nshelf b\nbox k 2\nbox m 1\nbox n 1\nbox t 1",
    "shelf a\nshelf b\nbox k 2 sealed\nbox m 1\nbox n 1 nailed\nbox t 1",
]


def small_yards():
    return [parse_yard(text) for text in SMALL_YARDS]


def above(yard, row, box):
    """All holders that the box lies within, from its own holder up; None if it lies within itself."""
    table = dict(zip(yard.boxes, row))
    found = []
    place = box
    while place in table:
        place = table[place]
        found.append(place)
        if place == box or len(found) > len(table) + 1:
            return None
    return found


def all_rows(yard):
    """The rows of all worlds of the yard, ascending."""
    rows = itertools.product(yard.holders, repeat=len(yard.boxes))
    return [row for row in rows if None not in [above(yard, row, box) for box in yard.boxes]]


def weights(yard, row):
    """The full weight of each box."""
    found = {box: yard.own(box) for box in yard.boxes}
    for box in yard.boxes:
        for holder in above(yard, row, box):
            if holder in found:
                found[holder] += yard.own(box)
    return found


def deeds(yard, row):
    """All possible deeds, ascending, each with the row that it leads to."""
    table = dict(zip(yard.boxes, row))
    full = weights(yard, row)
    found = []
    for first, second in itertools.combinations(yard.boxes, 2):
        if full[first] != full[second] or table[first] == table[second]:
            continue
        if {first, second} & set(yard.nailed) or {table[first], table[second]} & set(yard.sealed):
            continue
        assert first not in above(yard, row, second) and second not in above(yard, row, first)
        after = {**table, first: table[second], second: table[first]}
        found.append(((first, second), tuple(after[box] for box in yard.boxes)))
    return found


def distances(yard, row):
    """The fewest deeds from the row to each row that comes of it, by trying every deed."""
    found = {row: 0}
    queue = [row]
    for here in queue:
        for _, after in deeds(yard, here):
            if after not in found:
                found[after] = found[here] + 1
                queue.append(after)
    return found


def rows_after(yard, row, most):
    """For each number of deeds up to most the set of the rows that just so many deeds lead to."""
    found = [{row}]
    for _ in range(most):
        found.append({after for here in found[-1] for _, after in deeds(yard, here)})
    return found


def is_free(yard, row, box):
    return box not in yard.nailed and dict(zip(yard.boxes, row))[box] not in yard.sealed


# Worlds of small classes: one world alone, pools without and with levers, several pools at once,
# nails and seals, boxes within boxes.
CLASSES = [
    "shelf a\nshelf b\nbox k 1 in a\nbox l 1 in a\nbox m 2 in b",
    "shelf a\nshelf b sealed\nbox k 1 in a\nbox l 1 in b\nbox m 1 in a nailed",
    "shelf a\nshelf b\nbox k 3 in a\nbox m 2 in b\nbox n 1 in m\nbox t 1 in a",
    "shelf a\nshelf b\nbox k 1 in a\nbox l 1 in a\nbox m 1 in b",
    "shelf a\nshelf b\nbox k 1 in a\nbox l 1 in a\nbox m 1 in b\nbox n 1 in b",
    "shelf a\nshelf b\nshelf c\nbox k 1 in a\nbox l 1 in b\nbox m 1 in c\nbox n 1 in c",
    "shelf a\nshelf b\nshelf c\nbox k 1 in a\nbox l 1 in b\nbox m 1 in c",
    "shelf a\nshelf b\nbox e 1 in a\nbox f 1 in b\nbox g 2 in a\nbox h 2 in a\nbox i 2 in b",
    "shelf a\nshelf b\nbox e 1 in a\nbox f 1 in b nailed\nbox g 1 in b\nbox h 2 in a\nbox i 2 in a\nbox j 2 in b",
    "shelf a\nbox h 3 in a\nbox i 2 in a\nbox j 1 in h\nbox l 1 in i\nbox m 1 in i\nbox n 4 in a\nbox o 1 in a",
    "shelf a\nshelf b sealed\nbox h 2 in a\nbox i 2 in a\nbox j 1 in h\nbox l 1 in i\nbox m 1 in b\nbox o 3 in b",
    "shelf a\nshelf b\nshelf c\nshelf d\nbox k 1 in a\nbox l 1 in b\nbox m 1 in c\nbox n 1 in d",
]


def holds(yard, row, wish):
    """Whether the wish holds in the world of the row."""
    word, box, holder = wish
    places = above(yard, row, box)
    return holder == places[0] if word == "in" else holder in places


def all_wishes(yard):
    """All wishes of the yard, right and wrong ones of the rows alike."""
    names = itertools.product(["in", "within"], yard.boxes, yard.holders)
    return [wish for wish in names if wish[1] != wish[2]]
