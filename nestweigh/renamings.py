"""Renamings [16], and yards, worlds and deeds with other names."""

from nestweigh.errors import Twice, Unknown
from nestweigh.names import lesser_first, valid_name
from nestweigh.worlds import World
from nestweigh.yards import Yard


class Renaming:
    """A table from names to names, in which no two names become the same name [16]."""

    def __init__(self, table):
        found = {}
        for old, new in table.items():
            valid_name(old)
            valid_name(new)
            if new in found:
                raise Twice(new)
            found[new] = old
        self._table = {old: table[old] for old in sorted(table)}

    def __call__(self, name):
        if name not in self._table:
            raise Unknown(name)
        return self._table[name]

    def __invert__(self):
        return Renaming({self._table[old]: old for old in self._table})

    def __mul__(self, other):
        table = {}
        for old, new in other._table.items():
            if new not in self._table:
                raise Unknown(new)
            table[old] = self._table[new]
        return Renaming(table)

    def table(self):
        """Return a dict from each name of the domain to its new name."""
        return dict(self._table)

    def __len__(self):
        return len(self._table)

    def __iter__(self):
        return iter(self._table)

    def __eq__(self, other):
        return isinstance(other, Renaming) and self._table == other._table


def identity(names):
    """Return the renaming of each of the names to itself."""
    return Renaming({name: name for name in names})


def rename_yard(yard, renaming):
    """Return the renamed yard [16]."""
    new = {name: renaming(name) for name in yard.holders}
    return Yard(
        [new[shelf] for shelf in yard.shelves],
        {new[box]: yard.own(box) for box in yard},
        nailed=[new[box] for box in yard.nailed],
        sealed=[new[holder] for holder in yard.sealed],
    )


def rename_world(world, renaming):
    """Return the renamed world [16]."""
    yard = rename_yard(world.yard, renaming)
    return World(yard, {renaming(box): renaming(world.holder(box)) for box in world})


def rename_deeds(deeds, renaming):
    """Return the deeds with both names of each renamed."""
    return [lesser_first(renaming(first), renaming(second)) for first, second in deeds]
