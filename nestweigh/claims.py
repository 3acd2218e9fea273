"""Claims [76]: what may be said of a world."""

from nestweigh.errors import BadClaim
from nestweigh.names import is_name, is_number

MOST_CLAIMED = 1000000000000


def is_claim(claim):
    """Tell whether the tuple of strings, integers, True and False is a claim."""
    if len(claim) == 2:
        return claim[0] == "count" and _is_claimed_number(claim[1])
    if len(claim) != 3 or not _is_claimed_name(claim[1]):
        return False
    if claim[0] == "weighs":
        return _is_claimed_number(claim[2])
    return claim[0] in ("in", "within", "may") and _is_claimed_name(claim[2])


def require_claim(claim):
    """Raise BadClaim if the tuple is not a claim."""
    if not is_claim(claim):
        raise BadClaim(claim)


def _is_claimed_name(part):
    return isinstance(part, str) and is_name(part)


def _is_claimed_number(part):
    return is_number(part, 0, MOST_CLAIMED)
