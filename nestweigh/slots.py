"""Bags of holders, free boxes, pools and slots, and the mark of a world [28] to [30]."""

from nestweigh.bags import Bag
from nestweigh.holding import full_weights
from nestweigh.yards import require_holder


def is_free(world, box):
    """Tell whether the box is free [29]."""
    holder = world.holder(box)
    return not world.yard.is_nailed(box) and not world.yard.is_sealed(holder)


def free_boxes(world):
    """Return the free boxes, ascending."""
    return [box for box in world if is_free(world, box)]


def fixed_boxes(world):
    """Return the fixed boxes, ascending."""
    return [box for box in world if not is_free(world, box)]


def bag(world, holder):
    """Return the bag [28] of a holder."""
    require_holder(world.yard, holder)
    return Bag(bags(world)[holder])


def bags(world):
    """Return a dict from each holder to the ascending tuple of the items of its bag."""
    loads = full_weights(world)
    found = {holder: [] for holder in world.yard.holders}
    for box in world:
        found[world.holder(box)].append(loads[box])
    return {holder: tuple(sorted(found[holder])) for holder in found}


def free_weights(world):
    """Return the full weights of free boxes, ascending, each once."""
    loads = full_weights(world)
    return sorted(set([loads[box] for box in free_boxes(world)]))


def pool(world, weight):
    """Return the pool [29] of a weight, ascending."""
    loads = full_weights(world)
    return [box for box in free_boxes(world) if loads[box] == weight]


def slots(world, weight):
    """Return a dict from each slot [29] of a weight to its number of boxes."""
    places = [world.holder(box) for box in pool(world, weight)]
    return {place: places.count(place) for place in sorted(places)}


def mark(world):
    """Return the mark [30]: the bags of all holders, and the holders of the fixed boxes."""
    filled = tuple([(holder, items) for holder, items in bags(world).items()])
    return filled, tuple([(box, world.holder(box)) for box in fixed_boxes(world)])
