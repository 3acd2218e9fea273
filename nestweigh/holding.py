"""What lies in what: chains, full weights, depths and sub-worlds [17] to [20]."""

from nestweigh.worlds import World
from nestweigh.yards import Yard, require_holder


def chain(world, box):
    """Return the chain [17] of a box, from its holder up to a shelf."""
    found = [world.holder(box)]
    while world.yard.is_box(found[-1]):
        found.append(world.holder(found[-1]))
    return found


def is_within(world, box, holder):
    """Tell whether the box lies within the holder."""
    above = chain(world, box)
    require_holder(world.yard, holder)
    return holder in above


def held(world, holder):
    """Return the boxes that lie directly in the holder, ascending."""
    require_holder(world.yard, holder)
    return [box for box in world if world.holder(box) == holder]


def all_held(world, holder):
    """Return the boxes that lie within the holder, ascending."""
    require_holder(world.yard, holder)
    return [box for box in world if holder in chain(world, box)]


def full_weight(world, holder):
    """Return the full weight [18] of a box or shelf."""
    require_holder(world.yard, holder)
    return _loads(world)[holder]


def full_weights(world):
    """Return a dict from each box to its full weight [18]."""
    loads = _loads(world)
    return {box: loads[box] for box in world}


def depth(world, box):
    """Return the depth [19] of a box."""
    return len(chain(world, box))


def height(world):
    """Return the greatest depth of a box."""
    return max([depth(world, box) for box in world])


def meeting(world, first, second):
    """Return the first holder of the first chain that is also in the second one, or None."""
    ours = chain(world, first)
    theirs = chain(world, second)
    for holder in ours:
        if holder in theirs:
            return holder
    return None


def by_weight(world):
    """Return all boxes, the heaviest first, those of equal full weight ascending."""
    loads = _loads(world)
    # Sorting keeps boxes of equal full weight in their order, also in reverse.
    return sorted(list(world), key=lambda box: loads[box], reverse=True)


def sub_world(world, holder):
    """Return the sub-world [20] of a holder."""
    inner = all_held(world, holder)
    yard = Yard(
        [holder],
        {box: world.yard.own(box) for box in inner},
        nailed=[box for box in inner if world.yard.is_nailed(box)],
        sealed=[name for name in [holder] + inner if world.yard.is_sealed(name)],
    )
    return World(yard, {box: world.holder(box) for box in inner})


def total_weight(world):
    """Return the sum of the own weights of all boxes."""
    return sum([world.yard.own(box) for box in world])


def _loads(world):
    """Return a dict from each holder to its full weight [18]."""
    loads = {holder: 0 for holder in world.yard.holders}
    for box in world:
        own = world.yard.own(box)
        for holder in [box] + chain(world, box):
            loads[holder] = loads[holder] + own
    return loads
