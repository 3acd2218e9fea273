"""The texts of yards and worlds [14], and reading them [15]."""

from nestweigh.errors import BadText
from nestweigh.names import DIGITS, MOST_BOXES, MOST_SHELVES, MOST_WEIGHT, is_name
from nestweigh.worlds import World, least_looped
from nestweigh.yards import Yard

SHELF_MARKS = ((), ("sealed",))
BOX_MARKS = ((), ("nailed",), ("sealed",), ("nailed", "sealed"))
LONGEST_WEIGHT = 10


def format_yard(yard):
    """Return the text of the yard [14]."""
    return _format(yard, {box: [] for box in yard})


def format_world(world):
    """Return the text of the world [14]."""
    return _format(world.yard, {box: ["in", world.holder(box)] for box in world})


def parse_yard(text):
    """Return the yard with this text; raise BadText if there is none [15]."""
    return _yard_of(_read_rows(text, False))


def parse_world(text):
    """Return the world with this text; raise BadText if there is none [15]."""
    rows = _read_rows(text, True)
    lines = {row[1]: at + 1 for at, row in enumerate(rows)}
    table = {row[1]: row[3] for row in rows if row[0] == "box"}
    for box, holder in table.items():
        if holder not in lines:
            raise BadText(lines[box], "holder")
    looped = least_looped(table)
    if looped is not None:
        raise BadText(lines[looped], "loop")
    return World(_yard_of(rows), table)


def _format(yard, places):
    lines = [" ".join(["shelf", shelf] + _seal_words(yard, shelf)) for shelf in yard.shelves]
    for box in yard:
        marks = _nail_words(yard, box) + _seal_words(yard, box)
        lines.append(" ".join(["box", box, str(yard.own(box))] + places[box] + marks))
    return "\n".join(lines)


def _nail_words(yard, box):
    return ["nailed"] if yard.is_nailed(box) else []


def _seal_words(yard, holder):
    return ["sealed"] if yard.is_sealed(holder) else []


def _read_rows(text, placed):
    """Return the row of each line: its first word, name, weight, holder and marks."""
    rows = []
    for line in text.split("\n"):
        row = _row_of(line.split(" "), placed)
        fault = _fault_of(row, rows)
        if fault is not None:
            raise BadText(len(rows) + 1, fault)
        rows.append(row)
    for word in ("shelf", "box"):
        if _many(rows, word) == 0:
            raise BadText(len(rows) + 1, "empty")
    return rows


def _row_of(words, placed):
    """Return the row of the words of a line, None if they have not the form of a line."""
    if words[0] == "shelf":
        return _shelf_row(words)
    if words[0] == "box":
        return _box_row(words, placed)
    return None


def _shelf_row(words):
    if len(words) < 2 or tuple(words[2:]) not in SHELF_MARKS:
        return None
    return "shelf", words[1], None, None, tuple(words[2:])


def _box_row(words, placed):
    many = 5 if placed else 3
    if len(words) < many or tuple(words[many:]) not in BOX_MARKS:
        return None
    if placed and words[3] != "in":
        return None
    holder = words[4] if placed else None
    return "box", words[1], words[2], holder, tuple(words[many:])


def _fault_of(row, rows):
    """Return the first fault of a line, None if it has none; rows are those before it."""
    if row is None:
        return "words"
    word = row[0]
    if not is_name(row[1]):
        return "name"
    if word == "box" and not _is_weight(row[2]):
        return "weight"
    if _is_late(row, rows):
        return "order"
    if word == "box" and row[1] in [before[1] for before in rows if before[0] == "shelf"]:
        return "twice"
    if _many(rows, word) == (MOST_SHELVES if word == "shelf" else MOST_BOXES):
        return "many"
    return None


def _is_weight(word):
    # The length goes first: Python does not read numbers of any length.
    if not 1 <= len(word) <= LONGEST_WEIGHT or word[0] == "0":
        return False
    return all([mark in DIGITS for mark in word]) and int(word) <= MOST_WEIGHT


def _is_late(row, rows):
    if row[0] == "shelf" and _many(rows, "box") > 0:
        return True
    return len(rows) > 0 and rows[-1][0] == row[0] and rows[-1][1] >= row[1]


def _many(rows, word):
    return len([row for row in rows if row[0] == word])


def _yard_of(rows):
    return Yard(
        [row[1] for row in rows if row[0] == "shelf"],
        {row[1]: int(row[2]) for row in rows if row[0] == "box"},
        nailed=[row[1] for row in rows if "nailed" in row[4]],
        sealed=[row[1] for row in rows if "sealed" in row[4]],
    )
