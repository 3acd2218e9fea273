"""Repairs [67] and weighings [68]: changes of a yard after which one world comes of another one."""

from nestweigh.errors import BadWeight, NoChange, Unknown
from nestweigh.histories import moving
from nestweigh.holding import chain, full_weight
from nestweigh.judging import are_strings
from nestweigh.names import MOST_WEIGHT, is_number, valid_weight
from nestweigh.passage import comes
from nestweigh.slots import bags
from nestweigh.worlds import World, require_same_yard
from nestweigh.yards import own_weights, require_box


def nails_to_draw(start, goal):
    """Return the nailed boxes that move, ascending."""
    return [box for box in moving(start, goal) if start.yard.is_nailed(box)]


def seals_to_break(start, goal):
    """Return the sealed holders that a moving box has in one of the two worlds, ascending."""
    boxes = moving(start, goal)
    places = [start.holder(box) for box in boxes] + [goal.holder(box) for box in boxes]
    return [holder for holder in start.yard.sealed if holder in places]


def unequal_holders(start, goal):
    """Return the holders in which different numbers of boxes lie directly, ascending."""
    require_same_yard(start, goal)
    return [name for name in start.yard.holders if start.row.count(name) != goal.row.count(name)]


def weighings(start, goal):
    """Return all weighings [68], ascending."""
    require_same_yard(start, goal)
    unlike = _unlike_holders(start, goal)
    if len(unlike) == 0:
        return []
    found = []
    for box in start:
        for weight in _weights_to_try(start, goal, box, unlike[0]):
            if len(_unlike_holders(_weighed(start, box, weight), _weighed(goal, box, weight))) == 0:
                found.append((box, weight))
    return found


def least_repair(start, goal):
    """Return the nails, the seals and the weights of a repair [67], None if one weighing is not enough."""
    nails, seals = nails_to_draw(start, goal), seals_to_break(start, goal)
    if len(_unlike_holders(start, goal)) == 0:
        return nails, seals, []
    found = weighings(start, goal)
    return (nails, seals, found[:1]) if len(found) > 0 else None


def repaired(world, *, nails=(), seals=(), weights=()):
    """Return the world with the same holders and the changed yard [67]."""
    yard = world.yard
    for at, box in enumerate(nails):
        if not yard.is_nailed(box) or box in nails[:at]:
            raise NoChange(box)
    for at, holder in enumerate(seals):
        if not yard.is_sealed(holder) or holder in seals[:at]:
            raise NoChange(holder)
    boxes = {}
    for box, weight in weights:
        require_box(yard, box)
        valid_weight(weight)
        if weight == yard.own(box) or box in boxes:
            raise NoChange(box)
        boxes[box] = weight
    changed = yard.changed(
        boxes={**own_weights(yard), **boxes},
        nailed=[box for box in yard.nailed if box not in nails],
        sealed=[holder for holder in yard.sealed if holder not in seals],
    )
    return World(changed, world.table())


def is_repair(start, goal, nails, seals, weights):
    """Tell whether the changes are a repair [67] of the two worlds."""
    require_same_yard(start, goal)
    if not are_strings(nails) or not are_strings(seals) or not all([_is_pair(pair) for pair in weights]):
        return False
    try:
        before = repaired(start, nails=nails, seals=seals, weights=weights)
        after = repaired(goal, nails=nails, seals=seals, weights=weights)
    except (Unknown, NoChange, BadWeight):
        return False
    return comes(before, after)


def _is_pair(pair):
    return isinstance(pair, tuple) and len(pair) == 2 and isinstance(pair[0], str)


def _unlike_holders(start, goal):
    """Return the holders with different bags in the two worlds, ascending."""
    before, after = bags(start), bags(goal)
    return [holder for holder in before if before[holder] != after[holder]]


def _weighed(world, box, weight):
    """Return the world in which this box alone has this other own weight."""
    return repaired(world, weights=[(box, weight)])


def _weights_to_try(start, goal, box, holder):
    """Return the own weights of the box that could make the bags of the holder equal, ascending.

    The bags are different as they are, so that the full weight that changes with the box has to
    become another one of the other world.
    """
    own = start.yard.own(box)
    before, after = _load_above(start, box, holder), _load_above(goal, box, holder)
    changes = []
    if before is not None:
        changes = [number - before for number in bags(goal)[holder]]
    elif after is not None:
        changes = [number - after for number in bags(start)[holder]]
    weights = [own + change for change in changes if change != 0]
    return sorted(set([weight for weight in weights if is_number(weight, 1, MOST_WEIGHT)]))


def _load_above(world, box, holder):
    """Return the full weight of what is or holds the box and lies directly in the holder, or None."""
    way = [box] + chain(world, box)
    if holder not in way[1:]:
        return None
    return full_weight(world, way[way.index(holder) - 1])
