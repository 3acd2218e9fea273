"""Yards [11]: shelves and boxes with their names, own weights, nails and seals."""

from nestweigh.errors import BadCount, Twice, Unknown
from nestweigh.names import valid_name, valid_weight


class Yard:
    """The shelves and boxes of worlds, without their holders [11]."""

    MOST_SHELVES = 4
    MOST_BOXES = 12

    def __init__(self, shelves, boxes, *, nailed=(), sealed=()):
        _require_count("shelves", len(shelves), Yard.MOST_SHELVES)
        _require_count("boxes", len(boxes), Yard.MOST_BOXES)
        _require_shelves(shelves)
        _require_boxes(boxes, shelves)
        holders = list(shelves) + list(boxes)
        _require_listed(nailed, list(boxes))
        _require_listed(sealed, holders)
        self._shelves = tuple(sorted(shelves))
        self._boxes = tuple(sorted(boxes))
        self._holders = tuple(sorted(holders))
        self._weights = {box: boxes[box] for box in sorted(boxes)}
        self._nailed = tuple(sorted(nailed))
        self._sealed = tuple(sorted(sealed))

    @property
    def shelves(self):
        """The names of the shelves, ascending."""
        return self._shelves

    @property
    def boxes(self):
        """The names of the boxes, ascending."""
        return self._boxes

    @property
    def nailed(self):
        """The names of the nailed boxes, ascending."""
        return self._nailed

    @property
    def sealed(self):
        """The names of the sealed holders, ascending."""
        return self._sealed

    @property
    def holders(self):
        """The names of all shelves and boxes together, ascending."""
        return self._holders

    def own(self, name):
        """Return the own weight of a box."""
        require_box(self, name)
        return self._weights[name]

    def is_nailed(self, name):
        """Tell whether a box is nailed."""
        require_box(self, name)
        return name in self._nailed

    def is_sealed(self, name):
        """Tell whether a holder is sealed."""
        require_holder(self, name)
        return name in self._sealed

    def is_box(self, name):
        """Tell whether the string is the name of a box."""
        return name in self._weights

    def is_shelf(self, name):
        """Tell whether the string is the name of a shelf."""
        return name in self._shelves

    def changed(self, *, boxes=None, nailed=None, sealed=None):
        """Return a new yard of the same shelves with the given parts replaced."""
        return Yard(
            self._shelves,
            self._weights if boxes is None else boxes,
            nailed=self._nailed if nailed is None else nailed,
            sealed=self._sealed if sealed is None else sealed,
        )

    def __len__(self):
        return len(self._boxes)

    def __iter__(self):
        return iter(self._boxes)

    def __contains__(self, name):
        return name in self._weights

    def __eq__(self, other):
        return (
            isinstance(other, Yard)
            and self._shelves == other._shelves
            and self._weights == other._weights
            and self._nailed == other._nailed
            and self._sealed == other._sealed
        )


def require_box(yard, name):
    """Raise Unknown if the name is not a box of the yard."""
    if not yard.is_box(name):
        raise Unknown(name)


def is_holder(yard, name):
    """Tell whether the string is the name of a shelf or a box of the yard."""
    return yard.is_box(name) or yard.is_shelf(name)


def require_holder(yard, name):
    """Raise Unknown if the name is neither a shelf nor a box of the yard."""
    if not is_holder(yard, name):
        raise Unknown(name)


def own_weights(yard):
    """Return a dict from each box to its own weight, with the keys ascending."""
    return {box: yard.own(box) for box in yard}


def _require_count(what, many, most):
    if not 1 <= many <= most:
        raise BadCount(what, many)


def _require_shelves(shelves):
    for at, shelf in enumerate(shelves):
        valid_name(shelf)
        if shelf in shelves[:at]:
            raise Twice(shelf)


def _require_boxes(boxes, shelves):
    for box, weight in boxes.items():
        valid_name(box)
        if box in shelves:
            raise Twice(box)
        valid_weight(weight)


def _require_listed(names, known):
    for at, name in enumerate(names):
        if name not in known:
            raise Unknown(name)
        if name in names[:at]:
            raise Twice(name)
