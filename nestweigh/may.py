"""What a box may and must lie in, in some or all worlds of the class [46] to [48]."""

from nestweigh.deeds import exchange
from nestweigh.errors import BadWish, Same
from nestweigh.holding import full_weights
from nestweigh.judging import are_strings
from nestweigh.slots import free_weights, is_free, pool, slots
from nestweigh.ways import is_closed, reached, shortest_way
from nestweigh.yards import require_box, require_holder


def may_hold(world, box):
    """Return the holders in which the box may lie directly [46], ascending."""
    require_box(world.yard, box)
    return list(_steps(world)[box])


def must_hold(world, box):
    """Return the only holder in which the box may lie directly, None if there are several."""
    places = may_hold(world, box)
    return places[0] if len(places) == 1 else None


def may_within(world, box):
    """Return the holders that the box may lie within [47], ascending."""
    require_box(world.yard, box)
    return reached(_steps(world), box, None)


def must_within(world, box):
    """Return the holders that the box must lie within [48], ascending."""
    require_box(world.yard, box)
    steps = _steps(world)
    found = []
    for holder in reached(steps, box, None):
        others = reached(steps, box, holder)
        if not any([world.yard.is_shelf(name) for name in others]):
            found.append(holder)
    return found


def depths(world, box):
    """Return the depths that the box has in worlds of the class, ascending."""
    require_box(world.yard, box)
    return _depths(_steps(world), box)


def deepest(world):
    """Return the greatest depth of any box in any world of the class."""
    steps = _steps(world)
    return max([_depths(steps, box)[-1] for box in world])


def rising_chain(world, box, holder):
    """Return a rising chain [47] with the fewest names, None if there is none."""
    _require_two(world, box, holder)
    return shortest_way(_steps(world), box, holder)


def is_chain(world, box, holder, names):
    """Tell whether the names are a rising chain [47] from the box to the holder."""
    _require_two(world, box, holder)
    if len(names) < 2 or not are_strings(names):
        return False
    if names[0] != box or names[-1] != holder:
        return False
    steps = _steps(world)
    return all([place in steps.get(name, []) for name, place in zip(names, names[1:])])


def closed_set(world, box, holder):
    """Return None if the box may lie within the holder, otherwise all that it may lie within."""
    _require_two(world, box, holder)
    found = may_within(world, box)
    return None if holder in found else tuple(sorted([box] + found))


def is_closed_set(world, box, holder, names):
    """Tell whether the names prove that the box may not lie within the holder."""
    _require_two(world, box, holder)
    if box not in names or holder in names:
        return False
    return is_closed(_steps(world), world.yard.holders, names)


def world_of_chain(world, names):
    """Return a world of the class in which each name lies directly in the next one."""
    for name in names[:-1]:
        require_box(world.yard, name)
    require_holder(world.yard, names[-1])
    steps = _steps(world)
    for at, name in enumerate(names[:-1]):
        if names[at + 1] not in steps[name]:
            raise BadWish(at)
    loads = full_weights(world)
    found = world
    for name, place in zip(names, names[1:]):
        if found.holder(name) != place:
            # The names have different full weights, so that no step undoes another one.
            inner = [box for box in pool(found, loads[name]) if found.holder(box) == place]
            found = exchange(found, name, inner[0])
    return found


def _require_two(world, box, holder):
    require_box(world.yard, box)
    require_holder(world.yard, holder)
    if box == holder:
        raise Same(box)


def _steps(world):
    """Return a dict from each box to the holders in which it may lie directly, ascending."""
    loads = full_weights(world)
    places = {weight: list(slots(world, weight)) for weight in free_weights(world)}
    return {box: places[loads[box]] if is_free(world, box) else [world.holder(box)] for box in world}


def _depths(steps, name):
    # Full weights rise along each chain, so that this ends at the shelves.
    if name not in steps:
        return [0]
    return sorted(set([1 + number for place in steps[name] for number in _depths(steps, place)]))
