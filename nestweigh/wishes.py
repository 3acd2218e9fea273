"""Wishes [49]: worlds that grant them, and proofs that no world does [50] to [52]."""

from nestweigh.bags import arrangements
from nestweigh.classes import MOST_LISTED, count, listed
from nestweigh.errors import BadWish
from nestweigh.holding import full_weights, is_within
from nestweigh.names import is_number
from nestweigh.passage import comes
from nestweigh.slots import free_weights, is_free, pool, slots
from nestweigh.ways import is_closed, reached, shortest_way
from nestweigh.worlds import World
from nestweigh.yards import is_holder, require_box


def holds(world, wish):
    """Tell whether the wish holds in the world."""
    _require_wishes(world, [wish])
    return wish_holds(world, wish)


def unmet(world, wishes):
    """Return the indexes of the wishes that do not hold in the world, ascending."""
    _require_wishes(world, wishes)
    return _missing(world, wishes)


def grant(world, wishes):
    """Return a world in which all wishes hold, or a certificate that there is none, with its word."""
    _require_wishes(world, wishes)
    paper = _direct_denial(world, wishes)
    if paper is not None:
        return "denied", paper
    deep = [at for at, wish in enumerate(wishes) if wish[0] == "within"]
    if len(deep) > 1:
        return _tried(world, wishes)
    wanted = _wanted(wishes)
    if len(deep) == 1:
        _, box, holder = wishes[deep[0]]
        steps = _open_steps(world, wishes)
        way = shortest_way(steps, box, holder)
        if way is None:
            return "denied", ("closed", deep[0], tuple(sorted([box] + reached(steps, box, None))))
        # The boxes of the way have different full weights, so that no step takes the room of another one.
        wanted.update(dict(zip(way, way[1:])))
    return "granted", _filled(world, wanted)


def is_granted(world, wishes, found):
    """Tell whether the found world is in the class and all wishes hold in it."""
    _require_wishes(world, wishes)
    if found.yard != world.yard or not comes(world, found):
        return False
    return len(_missing(found, wishes)) == 0


def is_denied(world, wishes, paper):
    """Tell whether the certificate is a right one of any form [50]."""
    _require_wishes(world, wishes)
    if len(paper) == 2 and paper[0] == "fixed":
        return _is_fixed(world, wishes, paper[1])
    if len(paper) == 3 and paper[0] == "two":
        return _is_two(wishes, paper[1], paper[2])
    if len(paper) == 4 and paper[0] == "full":
        return _is_full(world, wishes, paper[1:])
    if len(paper) == 3 and paper[0] == "closed":
        return _is_closed(world, wishes, paper[1], paper[2])
    if len(paper) == 2 and paper[0] == "cases":
        return _is_cases(world, wishes, paper[1])
    return False


def count_granted(world, wishes):
    """Return the number of worlds of the class in which all wishes hold."""
    _require_wishes(world, wishes)
    if any([wish[0] == "within" for wish in wishes]):
        return len(_granting(world, wishes))
    if _direct_denial(world, wishes) is not None:
        return 0
    wanted = _wanted(wishes)
    ways = 1
    for weight in free_weights(world):
        ways *= arrangements(list(_left(world, weight, wanted).values()))
    return ways


def may_given(world, wishes, box):
    """Return the holders that the box has where all wishes hold, ascending."""
    _require_wishes(world, wishes)
    require_box(world.yard, box)
    return sorted(set([found.holder(box) for found in _granting(world, wishes)]))


def is_wish(yard, parts):
    """Tell whether the tuple of strings is a wish [49] of the yard."""
    if len(parts) != 3 or parts[0] not in ("in", "within"):
        return False
    _, box, holder = parts
    return yard.is_box(box) and is_holder(yard, holder) and box != holder


def wish_holds(world, wish):
    """Tell whether what is known to be a wish holds in the world."""
    word, box, holder = wish
    if word == "in":
        return world.holder(box) == holder
    return is_within(world, box, holder)


def _require_wishes(world, wishes):
    for at, wish in enumerate(wishes):
        if not is_wish(world.yard, wish):
            raise BadWish(at)


def _missing(world, wishes):
    return [at for at, wish in enumerate(wishes) if not wish_holds(world, wish)]


def _granting(world, wishes):
    """Return the worlds of the class in which all wishes hold, ascending."""
    return [found for found in listed(world) if len(_missing(found, wishes)) == 0]


def _tried(world, wishes):
    """Return what grant does, from looking at each world of the class."""
    indexes = []
    for found in listed(world):
        missing = _missing(found, wishes)
        if len(missing) == 0:
            return "granted", found
        indexes.append(missing[0])
    return "denied", ("cases", tuple(indexes))


def _direct_denial(world, wishes):
    """Return a certificate that the direct wishes alone are denied, None if they are not."""
    firsts = {}
    for at, (word, box, holder) in enumerate(wishes):
        if word != "in":
            continue
        if not is_free(world, box) and world.holder(box) != holder:
            return "fixed", at
        first = firsts.setdefault(box, at)
        if wishes[first][2] != holder:
            return "two", first, at
    return _crowd(world, wishes, list(firsts.values()))


def _crowd(world, wishes, indexes):
    """Return a certificate that too many boxes are wished into one slot, None if there is none.

    The indexes are those of direct wishes, one for each box.
    """
    loads = full_weights(world)
    groups = {}
    for at in indexes:
        _, box, holder = wishes[at]
        if is_free(world, box):
            groups.setdefault((loads[box], holder), []).append(at)
    for weight, holder in groups:
        crowd = groups[weight, holder]
        if len(crowd) > slots(world, weight).get(holder, 0):
            return "full", weight, holder, tuple(crowd)
    return None


def _wanted(wishes):
    """Return a dict from each box of a direct wish to the holder of the first such wish."""
    wanted = {}
    for word, box, holder in wishes:
        if word == "in":
            wanted.setdefault(box, holder)
    return wanted


def _left(world, weight, wanted):
    """Return the slots of a weight without the room that the wanted holders of its boxes take."""
    places = slots(world, weight)
    for box in pool(world, weight):
        if wanted.get(box, None) in places:
            places[wanted[box]] = places[wanted[box]] - 1
    return places


def _open_steps(world, wishes):
    """Return a dict from each box to the holders that are open to it [51]."""
    wanted = _wanted(wishes)
    loads = full_weights(world)
    steps = {}
    for box in world:
        if box in wanted:
            steps[box] = [wanted[box]]
        elif not is_free(world, box):
            steps[box] = [world.holder(box)]
        else:
            left = _left(world, loads[box], wanted)
            steps[box] = [place for place in left if left[place] > 0]
    return steps


def _filled(world, wanted):
    """Return a world of the class in which the boxes have the holders that are wanted of them."""
    table = world.table()
    for weight in free_weights(world):
        boxes = pool(world, weight)
        places = [world.holder(box) for box in boxes]
        for box in boxes:
            if box in wanted:
                places.remove(wanted[box])
                table[box] = wanted[box]
        others = [box for box in boxes if box not in wanted]
        table.update(dict(zip(others, places)))
    return World(world.yard, table)


def _is_index(wishes, at, word):
    """Tell whether this is the index of a wish with this first word."""
    return is_number(at, 0, len(wishes) - 1) and wishes[at][0] == word


def _is_fixed(world, wishes, at):
    if not _is_index(wishes, at, "in"):
        return False
    _, box, holder = wishes[at]
    return not is_free(world, box) and world.holder(box) != holder


def _is_two(wishes, low, high):
    if not _is_index(wishes, low, "in") or not _is_index(wishes, high, "in"):
        return False
    return low < high and wishes[low][1] == wishes[high][1] and wishes[low][2] != wishes[high][2]


def _is_full(world, wishes, parts):
    weight, holder, indexes = parts
    if not isinstance(indexes, tuple) or not all([_is_index(wishes, at, "in") for at in indexes]):
        return False
    if list(indexes) != sorted(set(indexes)):
        return False
    boxes = pool(world, weight)
    named = [wishes[at][1] for at in indexes if wishes[at][2] == holder and wishes[at][1] in boxes]
    if len(named) < len(indexes) or len(set(named)) < len(named):
        return False
    # Counted by hand: the holder need not be a name, so that it is not looked up.
    return len(named) > len([box for box in boxes if world.holder(box) == holder])


def _is_closed(world, wishes, at, names):
    if not _is_index(wishes, at, "within") or not isinstance(names, tuple):
        return False
    _, box, holder = wishes[at]
    if box not in names or holder in names:
        return False
    return is_closed(_open_steps(world, wishes), world.yard.holders, names)


def _is_cases(world, wishes, indexes):
    many = count(world)
    if many > MOST_LISTED or not isinstance(indexes, tuple) or len(indexes) != many:
        return False
    if not all([is_number(at, 0, len(wishes) - 1) for at in indexes]):
        return False
    return not any([wish_holds(found, wishes[at]) for found, at in zip(listed(world), indexes)])
