"""What the judges [5] ask of the kinds of parts inside a judged thing."""


def are_strings(parts):
    """Tell whether all parts are strings."""
    return all([isinstance(part, str) for part in parts])


def are_lists(parts):
    """Tell whether all parts are lists."""
    return all([isinstance(part, list) for part in parts])


def is_sequence(part):
    """Tell whether the part is a list or a tuple."""
    return isinstance(part, (list, tuple))


def is_deed(part):
    """Tell whether the part is a tuple of two strings [21]."""
    return isinstance(part, tuple) and len(part) == 2 and are_strings(part)
