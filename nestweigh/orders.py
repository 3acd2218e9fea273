"""Orders [69]: texts that describe deeds, and the programs [70] that they are read as."""

from nestweigh.errors import BadOrder
from nestweigh.names import is_name

VARIABLES = "ABCDEFGHIJKLMNOPQRSTUVWXYZ"
RELATIONS = ("in", "within", "like")
OPENERS = ("if", "while", "repeat", "each")
# The lines that begin no statement, each with the lines that open what it belongs to.
CLOSERS = {"else": ("if",), "end": ("if", "else", "while", "each"), "until": ("repeat",)}
MOST_NOTS = 3
MOST_BLOCKS = 5
MOST_STATEMENTS = 40


def parse_program(text):
    """Return the program of an order; raise BadOrder if there is none [71]."""
    return _body_at(_read_rows(text), 0)[0]


def format_program(program):
    """Return the canonical text [72] of a program."""
    return "\n".join(canonical_lines(program))


def statements(program):
    """Return the number of statements, those inside others included."""
    return sum([1 + sum([statements(body) for body in _bodies(statement)]) for statement in program])


def blocks(program):
    """Return the greatest number of blocks that one statement is inside plus 1, 0 if there is none."""
    inner = [body for statement in program for body in _bodies(statement)]
    if len(program) == 0:
        return 0
    return 1 + max([0] + [blocks(body) for body in inner])


def names_used(program):
    """Return the names at the places of terms, ascending, without the variables."""
    return sorted(set([term for term in _all_terms(program) if not is_variable(term)]))


def rename_program(program, renaming):
    """Return the program with every name renamed."""
    table = {name: renaming(name) for name in names_used(program)}
    return _renamed(program, table)


def canonical_lines(program):
    """Return the lines of the canonical text of some statements, as they stand outside of all blocks."""
    return [line for statement in program for line in _lines_of(statement)]


def is_variable(term):
    """Tell whether the string is a variable [69]."""
    return len(term) == 1 and term in VARIABLES


def _read_rows(text):
    """Return the words of each line that is not empty; raise BadOrder for the first fault."""
    rows = []
    # The open blocks, outermost first: the word that opened each, and the variable of an "each".
    opened = []
    lines = text.split("\n")
    for at, line in enumerate(lines):
        words = [word for word in line.split(" ") if word != ""]
        if len(words) == 0:
            continue
        many = len([row for row in rows if row[0] not in CLOSERS])
        fault = _fault_of(words, opened, many)
        if fault is not None:
            raise BadOrder(at + 1, fault)
        rows.append(words)
        opened = _opened_after(words, opened)
    if len(opened) > 0:
        raise BadOrder(len(lines) + 1, "open")
    return rows


def _fault_of(words, opened, many):
    """Return the first fault of a line, None if it has none; so many statements stand before it."""
    word = words[0]
    if not _has_form(words):
        return "words"
    if word in CLOSERS and (len(opened) == 0 or opened[-1][0] not in CLOSERS[word]):
        return "end"
    terms = _terms_in(words)
    if not all([is_name(term) or is_variable(term) for term in terms]):
        return "term"
    if word == "each" and not is_variable(words[1]):
        return "term"
    bound = [variable for _, variable in opened]
    if not all([is_name(term) or term in bound for term in terms]):
        return "variable"
    if word == "each" and words[1] in bound:
        return "variable"
    if word in OPENERS and len(opened) == MOST_BLOCKS:
        return "depth"
    if word not in CLOSERS and many == MOST_STATEMENTS:
        return "many"
    return None


def _has_form(words):
    """Tell whether the words have one of the forms [69], whatever stands in the places of terms."""
    word = words[0]
    if word in ("repeat", "else", "end"):
        return len(words) == 1
    if word == "exchange":
        return len(words) == 3
    if word == "bring":
        return len(words) == 4 and words[2] == "into"
    if word == "each":
        return len(words) == 4 and words[2] == "in"
    return word in ("if", "while", "until") and _is_condition(words[1:])


def _is_condition(words):
    if not 3 <= len(words) <= 3 + MOST_NOTS or words[-2] not in RELATIONS:
        return False
    return all([word == "not" for word in words[:-3]])


def _terms_in(words):
    """Return the words of a line that stand at the places of terms."""
    word = words[0]
    if word == "exchange":
        return words[1:]
    if word == "each":
        return words[3:]
    # The first and the last of the last three words, both in a condition and in "bring".
    return [words[-3], words[-1]] if len(words) > 1 else []


def _opened_after(words, opened):
    """Return the blocks that are open after a line without a fault."""
    word = words[0]
    if word == "each":
        return opened + [(word, words[1])]
    if word in OPENERS:
        return opened + [(word, None)]
    if word == "else":
        return opened[:-1] + [(word, None)]
    return opened[:-1] if word in CLOSERS else opened


def _body_at(rows, at):
    """Return the statements from a row on up to the end of their block, and the row behind them."""
    found = []
    behind = at
    while behind < len(rows) and rows[behind][0] not in CLOSERS:
        statement, behind = _statement_at(rows, behind)
        found.append(statement)
    return tuple(found), behind


def _statement_at(rows, at):
    """Return the statement that begins in a row, and the row behind it."""
    words = rows[at]
    word = words[0]
    if word == "exchange":
        return (word, words[1], words[2]), at + 1
    if word == "bring":
        return (word, words[1], words[3]), at + 1
    body, last = _body_at(rows, at + 1)
    if word == "each":
        return (word, words[1], words[3], body), last + 1
    if word == "repeat":
        return (word, body, _condition_of(rows[last][1:])), last + 1
    condition = _condition_of(words[1:])
    if word == "while":
        return (word, condition, body), last + 1
    other = ()
    if rows[last][0] == "else":
        other, last = _body_at(rows, last + 1)
    return (word, condition, body, other), last + 1


def _condition_of(words):
    condition = (words[-2], words[-3], words[-1])
    for _ in words[:-3]:
        condition = ("not", condition)
    return condition


def _bodies(statement):
    """Return the lists of statements inside a statement."""
    word = statement[0]
    if word in ("if", "while"):
        return list(statement[2:])
    if word == "repeat":
        return [statement[1]]
    return [statement[3]] if word == "each" else []


def _lines_of(statement):
    word = statement[0]
    if word == "exchange":
        return [f"exchange {statement[1]} {statement[2]}"]
    if word == "bring":
        return [f"bring {statement[1]} into {statement[2]}"]
    if word == "each":
        return [f"each {statement[1]} in {statement[2]}"] + _inner_lines(statement[3]) + ["end"]
    if word == "repeat":
        return ["repeat"] + _inner_lines(statement[1]) + ["until " + _condition_text(statement[2])]
    lines = [word + " " + _condition_text(statement[1])] + _inner_lines(statement[2])
    if word == "if" and len(statement[3]) > 0:
        lines = lines + ["else"] + _inner_lines(statement[3])
    return lines + ["end"]


def _inner_lines(body):
    return ["  " + line for line in canonical_lines(body)]


def _condition_text(condition):
    if condition[0] == "not":
        return "not " + _condition_text(condition[1])
    return f"{condition[1]} {condition[0]} {condition[2]}"


def _all_terms(program):
    """Return all terms of a program, in any order."""
    found = []
    for statement in program:
        word = statement[0]
        if word in ("exchange", "bring"):
            found.extend(statement[1:])
        elif word == "each":
            found.append(statement[2])
        else:
            found.extend(_condition_terms(statement[2] if word == "repeat" else statement[1]))
        for body in _bodies(statement):
            found.extend(_all_terms(body))
    return found


def _condition_terms(condition):
    return _condition_terms(condition[1]) if condition[0] == "not" else condition[1:]


def _renamed(program, table):
    return tuple([_renamed_statement(statement, table) for statement in program])


def _renamed_statement(statement, table):
    word = statement[0]
    if word in ("exchange", "bring"):
        return _renamed_terms(statement, table)
    if word == "each":
        place = statement[2]
        return word, statement[1], table.get(place, place), _renamed(statement[3], table)
    if word == "repeat":
        return word, _renamed(statement[1], table), _renamed_condition(statement[2], table)
    condition = _renamed_condition(statement[1], table)
    return (word, condition) + tuple([_renamed(body, table) for body in statement[2:]])


def _renamed_condition(condition, table):
    if condition[0] == "not":
        return "not", _renamed_condition(condition[1], table)
    return _renamed_terms(condition, table)


def _renamed_terms(row, table):
    """Return a word and two terms with the names renamed; the variables are not in the table."""
    return row[0], table.get(row[1], row[1]), table.get(row[2], row[2])
