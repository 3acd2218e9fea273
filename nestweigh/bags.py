"""Bags of integers [9] and the numbers of their arrangements [10]."""

from math import comb

from nestweigh.errors import BadNumber, Short
from nestweigh.names import is_number

MOST_TIMES = 100
MOST_COUNT = 60


class Bag:
    """A collection of integers in which an integer may occur several times [9]."""

    def __init__(self, numbers=()):
        for number in numbers:
            if isinstance(number, bool):
                raise BadNumber(number)
        table = {}
        for number in sorted(numbers):
            table[number] = table.get(number, 0) + 1
        self._table = table
        self._items = tuple(sorted(numbers))

    @property
    def numbers(self):
        """The ascending tuple of the items."""
        return self._items

    @property
    def total(self):
        """The sum of the items."""
        return sum(self._items)

    def times(self, number):
        """Return how often the number occurs."""
        return self._table.get(number, 0)

    def table(self):
        """Return a dict from each number that occurs to how often it does."""
        return dict(self._table)

    def within(self, other):
        """Tell whether each number occurs at least as often in the other bag."""
        return all([self.times(number) <= other.times(number) for number in self._table])

    @classmethod
    def counted(cls, table):
        """Return the bag in which each key occurs as often as its value says."""
        items = []
        for number, many in table.items():
            if not is_number(many, 0, MOST_TIMES):
                raise BadNumber(many)
            items.extend([number] * many)
        return cls(items)

    def __len__(self):
        return len(self._items)

    def __iter__(self):
        return iter(self._items)

    def __contains__(self, number):
        return number in self._table

    def __eq__(self, other):
        return isinstance(other, Bag) and self._items == other._items

    def __add__(self, other):
        return Bag(self._items + other._items)

    def __sub__(self, other):
        for number in other._table:
            if self.times(number) < other.times(number):
                raise Short(number)
        items = []
        for number in self._table:
            items.extend([number] * (self.times(number) - other.times(number)))
        return Bag(items)


def arrangements(counts):
    """Return the number of arrangements [10] of the counts."""
    for many in counts:
        if not is_number(many, 0, MOST_COUNT):
            raise BadNumber(many)
    total = 0
    ways = 1
    for many in counts:
        total += many
        # Each count chooses its places among those of the counts so far.
        ways *= comb(total, many)
    return ways
