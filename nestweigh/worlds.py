"""Worlds [12]: a yard together with one holder for each box."""

from nestweigh.errors import BadCount, Loop, NoHolder, OtherYard
from nestweigh.yards import require_box, require_holder


class World:
    """A yard and the holders of its boxes, such that no box lies within itself [12]."""

    def __init__(self, yard, table):
        for box, holder in table.items():
            require_box(yard, box)
            require_holder(yard, holder)
        for box in yard:
            if box not in table:
                raise NoHolder(box)
        looped = least_looped(table)
        if looped is not None:
            raise Loop(looped)
        self._yard = yard
        self._table = {box: table[box] for box in yard}
        self._row = tuple([table[box] for box in yard])

    @property
    def yard(self):
        """The yard of the world."""
        return self._yard

    @property
    def row(self):
        """The row [13]: the holders of the boxes, the boxes ascending."""
        return self._row

    def holder(self, name):
        """Return the holder of a box."""
        require_box(self._yard, name)
        return self._table[name]

    def table(self):
        """Return a dict from each box to its holder."""
        return dict(self._table)

    def moved(self, name, holder):
        """Return a new world in which this box alone has this other holder."""
        require_box(self._yard, name)
        table = self.table()
        table[name] = holder
        return World(self._yard, table)

    @classmethod
    def from_row(cls, yard, row):
        """Return the world with this row [13]."""
        if len(row) != len(yard):
            raise BadCount("holders", len(row))
        return cls(yard, dict(zip(yard.boxes, row)))

    def __len__(self):
        return len(self._row)

    def __iter__(self):
        return iter(self._table)

    def __eq__(self, other):
        return isinstance(other, World) and self._yard == other._yard and self._row == other._row


def require_same_yard(first, second):
    """Raise OtherYard if the yards of the two worlds are not equal."""
    if first.yard != second.yard:
        raise OtherYard()


def least_looped(table):
    """Return the least box that lies within itself, None if there is none."""
    for box in sorted(table):
        if _meets_itself(table, box):
            return box
    return None


def _meets_itself(table, box):
    # A way up that is longer than the number of boxes runs in a loop of other boxes.
    place = table[box]
    for _ in table:
        if place == box:
            return True
        if place not in table:
            return False
        place = table[place]
    return False
