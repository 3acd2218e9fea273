"""Histories [25]: sequences of deeds, what they lead to, and shorter ones [26], [27]."""

from nestweigh.deeds import after_deed, why_refused
from nestweigh.errors import BadNumber, Broken
from nestweigh.names import is_number, lesser_first
from nestweigh.worlds import require_same_yard
from nestweigh.yards import require_box


def replay(world, deeds):
    """Return the world after all deeds."""
    return worlds_along(world, deeds)[-1]


def judged(world, deeds):
    """Return None if the history is valid, otherwise where and why it is refused."""
    try:
        replay(world, deeds)
    except Broken as fault:
        return fault.at, fault.reason
    return None


def walk(world, deeds):
    """Give the world after each deed, in order."""
    current = world
    for at, (first, second) in enumerate(deeds):
        reason = why_refused(current, first, second)
        if reason is not None:
            raise Broken(at, reason)
        current = after_deed(current, first, second)
        yield current


def worlds_along(world, deeds):
    """Return the world itself and the world after each deed."""
    return [world] + list(walk(world, deeds))


def reversed_deeds(deeds):
    """Return the deeds in reverse order."""
    return lesser_first_deeds(deeds)[::-1]


def reduced(deeds):
    """Return the reduced history [26]."""
    kept = []
    for deed in lesser_first_deeds(deeds):
        if kept[-1:] == [deed]:
            kept.pop()
        else:
            kept.append(deed)
    return kept


def without_loops(world, deeds):
    """Return the history after its loops are cut [27]."""
    after = list(walk(world, deeds))
    rows = [world.row]
    kept = []
    for deed, found in zip(lesser_first_deeds(deeds), after):
        if found.row in rows:
            at = rows.index(found.row)
            rows = rows[:at + 1]
            kept = kept[:at]
        else:
            rows.append(found.row)
            kept.append(deed)
    return kept


def joined(world, first, second):
    """Return the deeds of both histories, which are valid one after the other."""
    whole = list(first) + list(second)
    replay(world, whole)
    return lesser_first_deeds(whole)


def cut(deeds, at):
    """Return the first deeds, as many as told, and the others."""
    if not is_number(at, 0, len(deeds)):
        raise BadNumber(at)
    whole = lesser_first_deeds(deeds)
    return whole[:at], whole[at:]


def trail(world, deeds, box):
    """Return the holder of the box at the beginning and after each deed."""
    require_box(world.yard, box)
    return [found.holder(box) for found in worlds_along(world, deeds)]


def moving(start, goal):
    """Return the boxes whose holders differ in the two worlds [34], ascending."""
    require_same_yard(start, goal)
    return [box for box in start if start.holder(box) != goal.holder(box)]


def lesser_first_deeds(deeds):
    """Return a list of the deeds, each with the lesser name first."""
    return [lesser_first(first, second) for first, second in deeds]
