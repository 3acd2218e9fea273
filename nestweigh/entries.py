"""The lines of the entries in the text of a book [77], and reading them [78]."""

from nestweigh.names import DIGITS, is_name
from nestweigh.texts import BOX_MARKS

MOST_RUN_DEEDS = 500
MOST_DIGITS = 13


def entry_line(entry):
    """Return the line of an entry [77]."""
    word = entry[0]
    if word == "run":
        return " ".join([word] + [name for deed in entry[1] for name in deed])
    if word == "file":
        return " ".join(["claim"] + [str(part) for part in entry[1]])
    if word == "bring":
        _, name, weight, holder, nailed, sealed = entry
        marks = (["nailed"] if nailed else []) + (["sealed"] if sealed else [])
        return " ".join([word, name, str(weight), "into", holder] + marks)
    return " ".join([str(part) for part in entry])


def read_entry(line):
    """Return the entry with this line, None if the line is that of no entry [78]."""
    words = line.split(" ")
    word = words[0]
    if word == "exchange":
        return ("exchange", words[1], words[2]) if len(words) == 3 and _is_deed(words[1:]) else None
    if word == "run":
        return _run_of(words[1:])
    if word == "bring":
        return _bring_of(words)
    if word == "weigh":
        is_right = len(words) == 3 and is_name(words[1]) and _is_digits(words[2])
        return ("weigh", words[1], int(words[2])) if is_right else None
    if word in ("take", "nail", "draw", "seal", "unseal"):
        return (word, words[1]) if len(words) == 2 and is_name(words[1]) else None
    if word == "claim":
        claim = _claim_of(words[1:])
        return ("file", claim) if claim is not None else None
    return None


def _is_deed(words):
    """Tell whether the two words are the names of a deed, the lesser name first."""
    return is_name(words[0]) and is_name(words[1]) and words[0] < words[1]


def _run_of(words):
    if len(words) % 2 == 1 or len(words) > 2 * MOST_RUN_DEEDS:
        return None
    deeds = list(zip(words[::2], words[1::2]))
    return ("run", tuple(deeds)) if all([_is_deed(deed) for deed in deeds]) else None


def _bring_of(words):
    if len(words) < 5 or words[3] != "into" or tuple(words[5:]) not in BOX_MARKS:
        return None
    _, name, weight, _, holder = words[:5]
    if not is_name(name) or not _is_digits(weight) or not is_name(holder):
        return None
    return "bring", name, int(weight), holder, "nailed" in words[5:], "sealed" in words[5:]


def _claim_of(words):
    if len(words) == 2:
        return ("count", int(words[1])) if words[0] == "count" and _is_digits(words[1]) else None
    if len(words) != 3 or not is_name(words[1]):
        return None
    if words[0] == "weighs":
        return ("weighs", words[1], int(words[2])) if _is_digits(words[2]) else None
    return tuple(words) if words[0] in ("in", "within", "may") and is_name(words[2]) else None


def _is_digits(word):
    """Tell whether the word is written as a number in the text of a book."""
    if not 1 <= len(word) <= MOST_DIGITS or (word[0] == "0" and word != "0"):
        return False
    return all([mark in DIGITS for mark in word])
