"""How many deeds the histories between two worlds can have: levers and companions [42], [43]."""

from nestweigh.deeds import possible_deeds
from nestweigh.errors import BadNumber
from nestweigh.fewest import certificate, circuit_deeds, fewest, shortest
from nestweigh.histories import lesser_first_deeds, moving
from nestweigh.holding import full_weight
from nestweigh.names import is_from_zero, is_number
from nestweigh.passage import require_coming
from nestweigh.slots import free_weights, pool, slots
from nestweigh.worlds import require_same_yard

LONGEST_HISTORY = 60


def levers(world):
    """Return the levers [42] of the world, ascending."""
    found = []
    for weight in free_weights(world):
        places = slots(world, weight)
        if len(places) > 1:
            found.extend([(weight, place) for place in places if places[place] > 1])
    return found


def companions(start, goal):
    """Return the moving boxes that belong to a companion pair as its moving box [42]."""
    require_coming(start, goal)
    return [box for box in moving(start, goal) if len(_beside(start, box)) > 0]


def lengths(start, goal):
    """Return the shape of the pair and the fewest deeds [43]."""
    least = fewest(start, goal)
    if len(possible_deeds(start)) == 0:
        return "only", least
    if len(levers(start)) == 0:
        return "steps", least
    if len(companions(start, goal)) > 0:
        return "all", least
    return "gap", least


def can_take(start, goal, number):
    """Tell whether some valid history has exactly this number of deeds."""
    shape, least = _asked_lengths(start, goal, number, is_from_zero(number))
    return _takes(shape, number - least)


def next_length(start, goal, number):
    """Return the least possible number of deeds that is at least this number, or None."""
    shape, least = _asked_lengths(start, goal, number, is_from_zero(number))
    wanted = max(number, least)
    # No shape leaves out two numbers side by side but "only", which has 0 alone.
    for found in (wanted, wanted + 1):
        if _takes(shape, found - least):
            return found
    return None


def history_of_length(start, goal, number):
    """Return a valid history of exactly this number of deeds, None if there is none."""
    shape, least = _asked_lengths(start, goal, number, is_number(number, 0, LONGEST_HISTORY))
    more = number - least
    if not _takes(shape, more):
        return None
    if more == 0:
        return shortest(start, goal)
    if more == 1:
        return _one_longer(start, goal)
    loop = []
    if more % 2 == 1:
        loop = _loop_of_three(start)
    # A deed that is done twice leads back, and so do the deeds of the loop.
    first = possible_deeds(start)[0]
    return loop + [first] * (more - len(loop)) + shortest(start, goal)


def _asked_lengths(start, goal, number, is_allowed):
    """Return the shape and the fewest deeds, after the number was looked at."""
    require_same_yard(start, goal)
    if not is_allowed:
        raise BadNumber(number)
    return lengths(start, goal)


def _takes(shape, more):
    """Tell whether so many deeds more than the fewest are possible in the shape [43]."""
    if shape == "only":
        return more == 0
    if shape == "steps":
        return more >= 0 and more % 2 == 0
    if shape == "gap":
        return more >= 0 and more != 1
    return more >= 0


def _beside(world, box):
    """Return the other free boxes of the full weight of the box in the holder of the box."""
    others = [other for other in pool(world, full_weight(world, box)) if other != box]
    return [other for other in others if world.holder(other) == world.holder(box)]


def _loop_of_three(world):
    """Return three deeds that lead back to the world, in which there is a lever."""
    weight, place = levers(world)[0]
    boxes = pool(world, weight)
    inner = [box for box in boxes if world.holder(box) == place]
    outer = [box for box in boxes if world.holder(box) != place]
    first, second, third = inner[0], inner[1], outer[0]
    return lesser_first_deeds([(first, third), (second, first), (third, second)])


def _one_longer(start, goal):
    """Return a valid history of one deed more than the fewest; there is a companion pair."""
    box = companions(start, goal)[0]
    beside = _beside(start, box)[0]
    begun = []
    others = []
    for _, circuits, _ in certificate(start, goal):
        for circuit in circuits:
            if box in circuit:
                at = circuit.index(box)
                begun = circuit[at:] + circuit[:at]
            else:
                others.extend(circuit_deeds(circuit))
    # The first deed takes the box from beside the other one; these two do the same together.
    detour = lesser_first_deeds([(begun[1], beside), (beside, box)])
    return detour + circuit_deeds(begun)[1:] + others
