"""What comes of a world [31], [32], and the proofs that it does or does not [33]."""

from nestweigh.errors import Broken, NotComing
from nestweigh.histories import moving, replay
from nestweigh.holding import full_weights
from nestweigh.judging import is_deed, is_sequence
from nestweigh.names import lesser_first
from nestweigh.slots import bags, mark
from nestweigh.worlds import require_same_yard


def bar(start, goal):
    """Return None if the goal comes of the start, otherwise the first bar [33]."""
    require_same_yard(start, goal)
    found = _bars(start, goal)
    return found[0] if len(found) > 0 else None


def comes(start, goal):
    """Tell whether the goal comes of the start."""
    return bar(start, goal) is None


def is_bar(start, goal, paper):
    """Tell whether the paper is any bar of the two worlds [33]."""
    require_same_yard(start, goal)
    return paper in _bars(start, goal)


def history(start, goal):
    """Return a valid history from the start to the goal."""
    require_coming(start, goal)
    loads = full_weights(start)
    table = start.table()
    deeds = []
    for box in moving(start, goal):
        place = goal.holder(box)
        if table[box] == place:
            continue
        # The bag of the place stays the same, so that a box that is not to stay there is in it.
        strays = [other for other in goal if table[other] == place and goal.holder(other) != place]
        other = [stray for stray in strays if loads[stray] == loads[box]][0]
        table[box], table[other] = place, table[box]
        deeds.append(lesser_first(box, other))
    return deeds


def is_history(start, goal, deeds):
    """Tell whether the deeds are a valid history from the start that ends in the goal."""
    require_same_yard(start, goal)
    if not all([is_deed(deed) for deed in deeds]):
        return False
    try:
        return replay(start, deeds) == goal
    except Broken:
        return False


def verdict(start, goal):
    """Return a history if the goal comes of the start, otherwise a bar, each with its word."""
    paper = bar(start, goal)
    if paper is None:
        return "history", history(start, goal)
    return "bar", paper


def is_verdict(start, goal, told):
    """Tell whether what is told is a right verdict about the two worlds."""
    require_same_yard(start, goal)
    if len(told) != 2:
        return False
    word, paper = told
    if word == "history":
        return is_sequence(paper) and is_history(start, goal, paper)
    return word == "bar" and is_bar(start, goal, paper)


def grouped(worlds):
    """Return the indexes of the worlds, those of one class in one list."""
    for world in worlds[1:]:
        require_same_yard(worlds[0], world)
    marks = [mark(world) for world in worlds]
    found = []
    for at, first in enumerate(marks):
        if first not in marks[:at]:
            found.append([other for other, second in enumerate(marks) if second == first])
    return found


def require_coming(start, goal):
    """Raise OtherYard or NotComing if the goal does not come of the start."""
    found = bar(start, goal)
    if found is not None:
        raise NotComing(found)


def _bars(start, goal):
    """Return all bars of the two worlds, those of the form "bag" first."""
    before, after = bags(start), bags(goal)
    unlike = [holder for holder in before if before[holder] != after[holder]]
    found = [("bag", holder, before[holder], after[holder]) for holder in unlike]
    for box in moving(start, goal):
        places = (start.holder(box), goal.holder(box))
        sealed = [place for place in places if start.yard.is_sealed(place)]
        if start.yard.is_nailed(box) or len(sealed) > 0:
            found.append(("fixed", box, places[0], places[1]))
    return found
