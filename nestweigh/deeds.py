"""Deeds [21] to [24]: exchanges of two boxes, and the reasons for which they are refused."""

from nestweigh.errors import Idle, Inside, Nailed, Same, Sealed, Unknown, Unlike
from nestweigh.holding import full_weights, is_within
from nestweigh.worlds import World
from nestweigh.yards import require_box


def why_refused(world, first, second):
    """Return the first reason [22] that applies, None if the deed is possible."""
    for name in (first, second):
        if not world.yard.is_box(name):
            return "unknown", name
    if first == second:
        return "same", first
    for inner, outer in ((first, second), (second, first)):
        if is_within(world, inner, outer):
            return "inside", inner, outer
    loads = full_weights(world)
    if loads[first] != loads[second]:
        return "unlike", first, second, loads[first], loads[second]
    return _why_kept(world, first, second)


def is_possible(world, first, second):
    """Tell whether the deed is possible."""
    return why_refused(world, first, second) is None


def exchange(world, first, second):
    """Return the world after the deed; raise the error of the reason if it is refused."""
    reason = why_refused(world, first, second)
    if reason is not None:
        _refuse(reason)
    return after_deed(world, first, second)


def possible_deeds(world):
    """Return all possible deeds, ascending."""
    loads = full_weights(world)
    found = []
    for first in world:
        # Only boxes of equal full weight are asked, since most others need no closer look.
        likes = [box for box in world if box > first and loads[box] == loads[first]]
        found.extend([(first, second) for second in likes if is_possible(world, first, second)])
    return found


def partners(world, box):
    """Return the boxes with which the deed of the box is possible, ascending."""
    require_box(world.yard, box)
    return [other for other in world if is_possible(world, box, other)]


def after_deed(world, first, second):
    """Return the world after a deed that is known to be possible."""
    table = world.table()
    table[first], table[second] = table[second], table[first]
    return World(world.yard, table)


def _why_kept(world, first, second):
    """Return the reason that nails, seals and holders give, None if they give none."""
    for name in (first, second):
        if world.yard.is_nailed(name):
            return "nailed", name
    for name in (first, second):
        if world.yard.is_sealed(world.holder(name)):
            return "sealed", world.holder(name)
    if world.holder(first) == world.holder(second):
        return "idle", world.holder(first)
    return None


def _refuse(reason):
    """Raise the error with the name of the reason [22]."""
    word = reason[0]
    if word == "unknown":
        raise Unknown(reason[1])
    if word == "same":
        raise Same(reason[1])
    if word == "inside":
        raise Inside(reason[1], reason[2])
    if word == "unlike":
        raise Unlike(reason[1], reason[2], reason[3], reason[4])
    if word == "nailed":
        raise Nailed(reason[1])
    if word == "sealed":
        raise Sealed(reason[1])
    raise Idle(reason[1])
