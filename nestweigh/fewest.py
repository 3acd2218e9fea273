"""The fewest deeds between two worlds, by the webs of their moving boxes [40], [41]."""

from nestweigh.histories import moving
from nestweigh.holding import full_weights
from nestweigh.judging import are_lists
from nestweigh.names import lesser_first
from nestweigh.passage import require_coming
from nestweigh.webs import Web, require_searched


def moving_weights(start, goal):
    """Return the full weights of the moving boxes, ascending, each once."""
    require_coming(start, goal)
    loads = full_weights(start)
    return sorted(set([loads[box] for box in moving(start, goal)]))


def web_of(start, goal, weight):
    """Return the web [40] of a full weight."""
    require_coming(start, goal)
    loads = full_weights(start)
    boxes = [box for box in moving(start, goal) if loads[box] == weight]
    return Web([(box, start.holder(box), goal.holder(box)) for box in boxes])


def circuit_deeds(boxes):
    """Return the deeds along a circuit of these boxes [41]."""
    return [lesser_first(first, second) for first, second in zip(boxes, boxes[1:])]


def fewest(start, goal):
    """Return the fewest deeds [40] from the start to the goal."""
    webs = _searched_webs(start, goal)
    return sum([len(webs[weight]) - webs[weight].most() for weight in webs])


def shortest(start, goal):
    """Return a valid history from the start to the goal with the fewest deeds."""
    deeds = []
    for _, circuits, _ in certificate(start, goal):
        for circuit in circuits:
            deeds.extend(circuit_deeds(circuit))
    return deeds


def certificate(start, goal):
    """Return for each moving weight a best split of its web, and the table that proves it best."""
    webs = _searched_webs(start, goal)
    return [(weight, web.circuits(), web.table()) for weight, web in webs.items()]


def is_certificate(start, goal, paper, number):
    """Tell whether the paper proves that this number is the fewest deeds."""
    webs = _searched_webs(start, goal)
    if not all([_is_row(row) for row in paper]):
        return False
    if [row[0] for row in paper] != list(webs):
        return False
    total = 0
    for weight, circuits, table in paper:
        web = webs[weight]
        if not web.is_split(circuits) or not web.is_bound(table, len(circuits)):
            return False
        total += len(web) - len(circuits)
    return total == number


def _searched_webs(start, goal):
    """Return a dict from each moving weight to its web; raise TooMany if one is too great."""
    webs = {weight: web_of(start, goal, weight) for weight in moving_weights(start, goal)}
    for weight in webs:
        require_searched(webs[weight])
    return webs


def _is_row(row):
    """Tell whether a row of a certificate is a tuple with lists in the places of lists."""
    if not isinstance(row, tuple) or len(row) != 3:
        return False
    return are_lists(row[1:]) and are_lists(row[1])
