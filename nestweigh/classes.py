"""The classes of worlds [32]: counts and ranks [44], neighbours and distances [45]."""

from nestweigh.bags import arrangements
from nestweigh.deeds import after_deed, possible_deeds
from nestweigh.errors import BadNumber, TooMany
from nestweigh.holding import full_weights
from nestweigh.names import is_number
from nestweigh.passage import require_coming
from nestweigh.slots import free_boxes, free_weights, is_free, slots
from nestweigh.worlds import World

MOST_LISTED = 400
MOST_MEASURED = 40


def factors(world):
    """Return for each full weight of free boxes the arrangements [44] of its slots."""
    left = _slots_by_weight(world)
    return [(weight, arrangements(list(left[weight].values()))) for weight in left]


def count(world):
    """Return the count [44] of the class."""
    return _ways(_slots_by_weight(world))


def rank(world):
    """Return the rank [44] of the world in its class."""
    loads = full_weights(world)
    left = _slots_by_weight(world)
    number = 0
    for box in free_boxes(world):
        weight, holder = loads[box], world.holder(box)
        for place in left[weight]:
            if place < holder:
                number += _ways(_without(left, weight, place))
        left = _without(left, weight, holder)
    return number


def world_at(world, number):
    """Return the world of the class with this rank."""
    if not is_number(number, 0, count(world) - 1):
        raise BadNumber(number)
    loads = full_weights(world)
    left = _slots_by_weight(world)
    before = number
    table = world.table()
    for box in free_boxes(world):
        weight = loads[box]
        place, before = _place_at(left, weight, before)
        left = _without(left, weight, place)
        table[box] = place
    return World(world.yard, table)


def least(world):
    """Return the world of rank 0."""
    return world_at(world, 0)


def following(world):
    """Return the world of the next rank, None if this is the last one."""
    number = rank(world) + 1
    return world_at(world, number) if number < count(world) else None


def listed(world):
    """Return all worlds of the class, ascending."""
    require_few(world, MOST_LISTED)
    return [World.from_row(world.yard, row) for row in _rows(world)]


def neighbours(world):
    """Return the worlds at distance 1 [45], ascending by their rows."""
    found = [after_deed(world, first, second) for first, second in possible_deeds(world)]
    return sorted(found, key=lambda other: other.row)


def distances(world):
    """Return for each rank the distance [45] from the world to the world of this rank."""
    require_few(world, MOST_MEASURED)
    steps = _steps_by_row(world)
    return [steps[row] for row in _rows(world)]


def farthest(world):
    """Return the greatest distance from the world to a world of its class."""
    return max(distances(world))


def between(start, goal):
    """Return the worlds on the shortest ways from the start to the goal, ascending."""
    require_coming(start, goal)
    before, after = distances(start), distances(goal)
    whole = before[rank(goal)]
    return [found for at, found in enumerate(listed(start)) if before[at] + after[at] == whole]


def require_few(world, limit):
    """Raise TooMany if the class has more worlds than the limit."""
    many = count(world)
    if many > limit:
        raise TooMany(many, limit)


def _slots_by_weight(world):
    """Return a dict from each full weight of free boxes to its slots [29]."""
    return {weight: slots(world, weight) for weight in free_weights(world)}


def _ways(left):
    """Return the number of ways to fill what is left of the slots."""
    ways = 1
    for weight in left:
        ways *= arrangements(list(left[weight].values()))
    return ways


def _without(left, weight, place):
    """Return what is left of the slots after a box of this full weight is put in the place."""
    places = dict(left[weight])
    places[place] = places[place] - 1
    if places[place] == 0:
        del places[place]
    after = dict(left)
    after[weight] = places
    return after


def _place_at(left, weight, before):
    """Return the place of the next box of this full weight, and what is left of the rank.

    The rank counts the worlds before the wanted one that agree with it in the boxes so far.
    """
    places = list(left[weight])
    number = before
    for place in places[:-1]:
        ways = _ways(_without(left, weight, place))
        if number < ways:
            return place, number
        number = number - ways
    return places[-1], number


def _rows(world):
    """Return the rows of all worlds of the class, ascending."""
    loads = full_weights(world)
    left = _slots_by_weight(world)
    boxes = list(world)
    rows = [()]
    for at, box in enumerate(boxes):
        if not is_free(world, box):
            rows = [row + (world.holder(box),) for row in rows]
            continue
        peers = [other for other in range(at) if is_free(world, boxes[other]) and loads[boxes[other]] == loads[box]]
        places = left[loads[box]]
        rows = [row + (place,) for row in rows for place in places if _has_room(row, peers, place, places[place])]
    return rows


def _has_room(row, peers, place, many):
    """Tell whether fewer than so many of the peers lie in the place."""
    return [row[at] for at in peers].count(place) < many


def _steps_by_row(world):
    """Return a dict from the row of each world of the class to its distance from the world."""
    found = {world.row: 0}
    queue = [world]
    while len(queue) > 0:
        here = queue.pop(0)
        for other in neighbours(here):
            if other.row not in found:
                found[other.row] = found[here.row] + 1
                queue.append(other)
    return found
