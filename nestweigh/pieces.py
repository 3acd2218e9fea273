"""Pieces [57], what surrounds them [58], [59], and which pieces are alike everywhere [60], [61]."""

from nestweigh.classes import count
from nestweigh.errors import BadCount, BadWeight, Clash, OtherDoors, Sealed, Unknown
from nestweigh.holding import full_weight, full_weights, held
from nestweigh.names import fresh_name, valid_name
from nestweigh.slots import free_boxes, free_weights, pool
from nestweigh.worlds import World
from nestweigh.yards import Yard, own_weights, require_holder

MOST_DOORS = 3
MOST_PIECE_BOXES = 8
MOST_PIECE_WEIGHT = 1000000
MOST_AROUND = 4
# More than all boxes of a piece together weigh.
HEAVY = 100000000


class Piece:
    """A world with few boxes and open shelves, called doors [57]."""

    def __init__(self, world):
        yard = world.yard
        if len(yard.shelves) > MOST_DOORS:
            raise BadCount("doors", len(yard.shelves))
        for shelf in yard.shelves:
            if yard.is_sealed(shelf):
                raise Sealed(shelf)
        if len(yard) > MOST_PIECE_BOXES:
            raise BadCount("boxes", len(yard))
        for box in yard:
            if yard.own(box) > MOST_PIECE_WEIGHT:
                raise BadWeight(yard.own(box))
        self._world = world

    @property
    def world(self):
        """The world of the piece."""
        return self._world

    @property
    def doors(self):
        """The names of the doors, ascending."""
        return self._world.yard.shelves

    def __eq__(self, other):
        return isinstance(other, Piece) and self._world == other._world

    def __add__(self, other):
        ours, theirs = self._world, other._world
        if ours.yard.shelves != theirs.yard.shelves:
            raise OtherDoors()
        for box in theirs:
            if ours.yard.is_box(box):
                raise Clash(box)
        # Too many boxes together are refused by the new yard or the new piece.
        return Piece(_world_of_both(ours, theirs, {**ours.table(), **theirs.table()}))


class Surrounding:
    """A world with few boxes, and a place in it for each of some doors [58]."""

    def __init__(self, world, places):
        if len(world) > MOST_AROUND:
            raise BadCount("boxes", len(world))
        for door, place in places.items():
            valid_name(door)
            require_holder(world.yard, place)
        self._world = world
        self._places = {door: places[door] for door in sorted(places)}

    @property
    def world(self):
        """The world around the piece."""
        return self._world

    def place(self, door):
        """Return the place of a door."""
        if door not in self._places:
            raise Unknown(door)
        return self._places[door]

    def places(self):
        """Return a dict from each door to its place."""
        return dict(self._places)


def glue(piece, surrounding):
    """Return the world of the piece in the surrounding [59]."""
    inner, outer = piece.world, surrounding.world
    places = {door: surrounding.place(door) for door in piece.doors}
    for box in inner:
        if box in outer.yard.holders:
            raise Clash(box)
    table = outer.table()
    for box in inner:
        holder = inner.holder(box)
        table[box] = places.get(holder, holder)
    return _world_of_both(outer, inner, table)


def piece_mark(piece):
    """Return the piece mark [60]."""
    world = piece.world
    loads = full_weights(world)
    free = free_boxes(world)
    doors = []
    for door in piece.doors:
        numbers = sorted([loads[box] for box in held(world, door) if box in free])
        doors.append((door, full_weight(world, door), tuple(numbers)))
    weights = [(weight, len(pool(world, weight))) for weight in free_weights(world)]
    return tuple(doors), tuple(weights), count(world)


def alike_everywhere(first, second):
    """Tell whether the pieces have the same counts in all surroundings [60]."""
    _require_same_doors(first, second)
    return piece_mark(first) == piece_mark(second)


def telling(first, second):
    """Return a telling surrounding [61] of the pieces, None if they are alike everywhere."""
    _require_same_doors(first, second)
    ours, our_weights, our_count = piece_mark(first)
    theirs, their_weights, their_count = piece_mark(second)
    if our_count != their_count:
        return _beside(first, second, 1, True, None)
    # From here on both counts are the same, so that only what is put beside the pieces can differ.
    unlike = _odd_ones(our_weights, their_weights)
    if len(unlike) > 0:
        return _beside(first, second, unlike[0][0], False, None)
    for (door, _, numbers), (_, _, others) in zip(ours, theirs):
        odd = _odd_ones(numbers, others)
        if len(odd) > 0:
            return _beside(first, second, odd[0], False, door)
    for (door, total, _), (_, other, _) in zip(ours, theirs):
        if total != other:
            return _scales(first, second, door, total)
    return None


def is_telling(first, second, surrounding):
    """Tell whether the surrounding is a telling one [61] of the pieces."""
    _require_same_doors(first, second)
    try:
        return count(glue(first, surrounding)) != count(glue(second, surrounding))
    except (Unknown, Clash):
        return False


def _require_same_doors(first, second):
    if first.doors != second.doors:
        raise OtherDoors()


def _world_of_both(outer, inner, table):
    """Return the world on the outer shelves with the boxes of both worlds and these holders."""
    first, second = outer.yard, inner.yard
    yard = Yard(
        first.shelves,
        {**own_weights(first), **own_weights(second)},
        nailed=first.nailed + second.nailed,
        sealed=first.sealed + second.sealed,
    )
    return World(yard, table)


def _odd_ones(ours, theirs):
    """Return the items that the two tuples have differently often."""
    return [item for item in ours + theirs if ours.count(item) != theirs.count(item)]


def _new_names(first, second, many):
    """Return as many names that no box of the two pieces has."""
    taken = list(first.world) + list(second.world)
    found = []
    for _ in range(many):
        found.append(fresh_name(taken + found))
    return found


def _beside(first, second, weight, is_nailed, door):
    """Return a surrounding with a shelf for each door and one box more.

    The box lies on the shelf of the door, or on a shelf of its own if the door is None.
    """
    names = _new_names(first, second, 2 + len(first.doors))
    box, shelves = names[0], names[1:]
    places = dict(zip(first.doors, shelves))
    yard = Yard(shelves, {box: weight}, nailed=[box] if is_nailed else [])
    return Surrounding(World(yard, {box: places.get(door, shelves[-1])}), places)


def _scales(first, second, door, total):
    """Return a surrounding with two boxes, one of which holds the door.

    The two have the same full weight just if the full weight of the door is the total.
    """
    names = _new_names(first, second, 3 + len(first.doors))
    loaded, other, shelves = names[0], names[1], names[2:]
    places = dict(zip(first.doors, shelves))
    table = {loaded: places[door], other: shelves[-1]}
    places[door] = loaded
    yard = Yard(shelves, {loaded: HEAVY, other: HEAVY + total})
    return Surrounding(World(yard, table), places)
