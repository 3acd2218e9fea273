"""Webs [35]: arrows of boxes between places, and how they fall into circuits [36] to [39]."""

from nestweigh.errors import BadCount, Idle, TooMany, Twice, Unbalanced
from nestweigh.judging import are_strings, is_sequence
from nestweigh.names import valid_name

MOST_ARROWS = 12


class Web:
    """A balanced set of arrows (box, from, to) between places [35]."""

    MOST_SEARCHED = 6

    def __init__(self, arrows):
        if len(arrows) > MOST_ARROWS:
            raise BadCount("arrows", len(arrows))
        _require_arrows(arrows)
        _require_balance(arrows)
        self._arrows = tuple(sorted(arrows))
        self._sources = {box: source for box, source, _ in self._arrows}
        self._targets = {box: target for box, _, target in self._arrows}

    @property
    def arrows(self):
        """The tuple of the arrows, ascending by box."""
        return self._arrows

    def most(self):
        """Return the greatest number of circuits in a split."""
        return self.table()[-1]

    def circuits(self):
        """Return a split with the greatest number of circuits."""
        table = self.table()
        rounds = _rounds(self._arrows)
        found = []
        left = len(table) - 1
        while left > 0:
            # Some circuit takes just 1 from the entry, and what it leaves is balanced again.
            best = [index for index in _inside(rounds, left) if table[left] == 1 + table[left - index]][0]
            found.append(rounds[best])
            left = left - best
        return found

    def table(self):
        """Return the table [37]."""
        require_searched(self)
        rounds = _rounds(self._arrows)
        table = []
        for index in range(1 << len(self._arrows)):
            table.append(max([0] + [1 + table[index - inner] for inner in _inside(rounds, index)]))
        return table

    def is_circuit(self, boxes):
        """Tell whether the boxes are a circuit [36]."""
        if not self.is_trail(boxes):
            return False
        return len(set([self._sources[box] for box in boxes])) == len(boxes)

    def is_trail(self, boxes):
        """Tell whether the boxes are a trail [36]."""
        if len(boxes) == 0 or not are_strings(boxes) or len(set(boxes)) < len(boxes):
            return False
        if not all([box in self._sources for box in boxes]):
            return False
        after = boxes[1:] + boxes[:1]
        return all([self._targets[box] == self._sources[other] for box, other in zip(boxes, after)])

    def is_split(self, circuits):
        """Tell whether the circuits are a split [36]."""
        boxes = []
        for circuit in circuits:
            if not is_sequence(circuit) or not self.is_circuit(circuit):
                return False
            boxes.extend(circuit)
        return sorted(boxes) == list(self._sources)

    def is_bound(self, table, number):
        """Tell whether the table bounds the web [38] with this number as its last entry."""
        require_searched(self)
        if len(table) != 1 << len(self._arrows):
            return False
        if not all([isinstance(entry, int) and entry >= 0 for entry in table]):
            return False
        rounds = _rounds(self._arrows)
        for index, entry in enumerate(table):
            if not all([entry >= 1 + table[index - inner] for inner in _inside(rounds, index)]):
                return False
        return table[-1] == number

    def parts(self):
        """Return the parts [39], each an ascending list of boxes."""
        found = []
        for box in self._sources:
            if not any([box in part for part in found]):
                found.append(self._part_of(box))
        return found

    def closed_trails(self):
        """Return one trail for each part."""
        return [self._trail_of(part) for part in self.parts()]

    def __len__(self):
        return len(self._arrows)

    def __iter__(self):
        return iter(self._arrows)

    def __eq__(self, other):
        return isinstance(other, Web) and self._arrows == other._arrows

    def _part_of(self, box):
        part = []
        grown = [box]
        while len(grown) > len(part):
            part = grown
            places = [self._sources[known] for known in part] + [self._targets[known] for known in part]
            grown = [name for name, source, target in self._arrows if source in places or target in places]
        return part

    def _trail_of(self, part):
        """Return all boxes of the part in the order of a trail."""
        left = list(part)
        way = [(part[0], self._sources[part[0]])]
        trail = []
        while len(way) > 0:
            box, place = way[-1]
            ahead = [name for name in left if self._sources[name] == place]
            if len(ahead) > 0:
                left.remove(ahead[0])
                way.append((ahead[0], self._targets[ahead[0]]))
            else:
                # Nothing leaves this place any more: the way to it goes before what is known.
                way.pop()
                trail.insert(0, box)
        # The first row of the way is the beginning, not an arrow.
        return trail[1:]


def require_searched(web):
    """Raise TooMany if the web has too many arrows for a search."""
    if len(web) > Web.MOST_SEARCHED:
        raise TooMany(len(web), Web.MOST_SEARCHED)


def _require_arrows(arrows):
    for at, (box, source, target) in enumerate(arrows):
        for name in (box, source, target):
            valid_name(name)
        if box in [before[0] for before in arrows[:at]]:
            raise Twice(box)
        if source == target:
            raise Idle(source)


def _require_balance(arrows):
    sources = [source for _, source, _ in arrows]
    targets = [target for _, _, target in arrows]
    for place in sorted(sources + targets):
        if sources.count(place) != targets.count(place):
            raise Unbalanced(place)


def _rounds(arrows):
    """Return a dict from the index [37] of each set of arrows that is a circuit to its boxes."""
    found = {}
    for index in range(1, 1 << len(arrows)):
        boxes = _round_of([arrow for at, arrow in enumerate(arrows) if (index >> at) & 1 == 1])
        if boxes is not None:
            found[index] = boxes
    return found


def _round_of(arrows):
    """Return the boxes of the arrows in the order of a circuit, None if they are no circuit."""
    leaving = {source: (box, target) for box, source, target in arrows}
    beginning = arrows[0][1]
    place = beginning
    boxes = []
    for _ in arrows:
        if place not in leaving:
            return None
        box, place = leaving[place]
        boxes.append(box)
        if place == beginning and len(boxes) < len(arrows):
            return None
    return boxes if place == beginning else None


def _inside(rounds, index):
    """Return the indexes of the circuits whose arrows all belong to the set of the index."""
    return [inner for inner in rounds if inner & index == inner]
