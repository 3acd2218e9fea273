"""Books [75]: a world, and what is done with it, entry by entry."""

from nestweigh.claims import require_claim
from nestweigh.deeds import exchange
from nestweigh.errors import Nailed, NoChange, NotEmpty, NothingDone, Sealed, TooMany, Twice
from nestweigh.histories import lesser_first_deeds, replay
from nestweigh.holding import held
from nestweigh.names import lesser_first, valid_name, valid_weight
from nestweigh.running import require_steps, run
from nestweigh.worlds import World
from nestweigh.yards import is_holder, own_weights, require_box

MOST_ENTRIES = 100
FIRST_STEPS = 40


class Book:
    """An origin, the entries that were made since, and the world that they led to [75]."""

    def __init__(self, world):
        # The origin and the world after each entry.
        self._worlds = [world]
        self._entries = []
        self._steps = FIRST_STEPS

    @property
    def world(self):
        """The world after all entries."""
        return self._worlds[-1]

    @property
    def origin(self):
        """The world before all entries."""
        return self._worlds[0]

    @property
    def steps(self):
        """The number of steps that a run is allowed if none is told."""
        return self._steps

    @steps.setter
    def steps(self, value):
        require_steps(value)
        self._steps = value

    def __len__(self):
        return len(self._entries)

    def entries(self):
        """Return the entries in their order."""
        return list(self._entries)

    def claims(self):
        """Return the claims in the order of their numbers."""
        return [entry[1] for entry in self._entries if entry[0] == "file"]

    def worlds(self):
        """Return the origin and the world after each entry."""
        return list(self._worlds)

    def exchange(self, first, second):
        """Add the deed of two boxes."""
        self._require_room()
        after = exchange(self.world, first, second)
        self._add(("exchange",) + lesser_first(first, second), after)

    def carry(self, deeds):
        """Add the deeds of a history."""
        self._require_room()
        after = replay(self.world, deeds)
        self._add(("run", tuple(lesser_first_deeds(deeds))), after)

    def run(self, program, *, steps=None):
        """Run the program, add its deeds and return them."""
        self._require_room()
        after, deeds = run(program, self.world, steps=self._steps if steps is None else steps)
        self._add(("run", tuple(deeds)), after)
        return deeds

    def bring(self, name, weight, holder, *, nailed=False, sealed=False):
        """Put a new box into a holder."""
        self._require_room()
        valid_name(name)
        yard = self.world.yard
        if is_holder(yard, name):
            raise Twice(name)
        valid_weight(weight)
        if yard.is_sealed(holder):
            raise Sealed(holder)
        # A thirteenth box is refused by the new yard.
        changed = yard.changed(
            boxes={**own_weights(yard), name: weight},
            nailed=_with(yard.nailed, name) if nailed else None,
            sealed=_with(yard.sealed, name) if sealed else None,
        )
        entry = ("bring", name, weight, holder, nailed, sealed)
        self._add(entry, World(changed, {**self.world.table(), name: holder}))

    def take(self, name):
        """Take a box that holds nothing out."""
        self._require_room()
        world, yard = self.world, self.world.yard
        require_box(yard, name)
        if len(held(world, name)) > 0:
            raise NotEmpty(name)
        if yard.is_nailed(name):
            raise Nailed(name)
        if yard.is_sealed(world.holder(name)):
            raise Sealed(world.holder(name))
        # That there is no box left is refused by the new yard.
        boxes = _without(list(yard), name)
        changed = yard.changed(
            boxes={box: yard.own(box) for box in boxes}, sealed=_without(yard.sealed, name)
        )
        self._add(("take", name), World(changed, {box: world.holder(box) for box in boxes}))

    def weigh(self, name, weight):
        """Give a box another own weight."""
        self._require_room()
        yard = self.world.yard
        require_box(yard, name)
        valid_weight(weight)
        if yard.own(name) == weight:
            raise NoChange(name)
        self._add_change(("weigh", name, weight), yard.changed(boxes={**own_weights(yard), name: weight}))

    def nail(self, name):
        """Nail a box."""
        self._require_room()
        yard = self.world.yard
        if yard.is_nailed(name):
            raise NoChange(name)
        self._add_change(("nail", name), yard.changed(nailed=_with(yard.nailed, name)))

    def draw(self, name):
        """Draw the nail of a box."""
        self._require_room()
        yard = self.world.yard
        if not yard.is_nailed(name):
            raise NoChange(name)
        self._add_change(("draw", name), yard.changed(nailed=_without(yard.nailed, name)))

    def seal(self, name):
        """Seal a holder."""
        self._require_room()
        yard = self.world.yard
        if yard.is_sealed(name):
            raise NoChange(name)
        self._add_change(("seal", name), yard.changed(sealed=_with(yard.sealed, name)))

    def unseal(self, name):
        """Break the seal of a holder."""
        self._require_room()
        yard = self.world.yard
        if not yard.is_sealed(name):
            raise NoChange(name)
        self._add_change(("unseal", name), yard.changed(sealed=_without(yard.sealed, name)))

    def file(self, claim):
        """File a claim and return its number."""
        self._require_room()
        require_claim(claim)
        number = len(self.claims())
        self._add(("file", claim), self.world)
        return number

    def do(self, entry):
        """Add an entry by the method that belongs to it."""
        word = entry[0]
        if word == "exchange":
            self.exchange(entry[1], entry[2])
        elif word == "run":
            self.carry(entry[1])
        elif word == "bring":
            self.bring(entry[1], entry[2], entry[3], nailed=entry[4], sealed=entry[5])
        elif word == "take":
            self.take(entry[1])
        elif word == "weigh":
            self.weigh(entry[1], entry[2])
        elif word == "nail":
            self.nail(entry[1])
        elif word == "draw":
            self.draw(entry[1])
        elif word == "seal":
            self.seal(entry[1])
        elif word == "unseal":
            self.unseal(entry[1])
        else:
            self.file(entry[1])

    def undo(self):
        """Remove the last entry and return it."""
        if len(self._entries) == 0:
            raise NothingDone()
        self._worlds.pop()
        return self._entries.pop()

    def twin(self):
        """Return a new book with equal origin, entries and steps."""
        book = Book(self.origin)
        book._worlds = list(self._worlds)
        book._entries = list(self._entries)
        book.steps = self._steps
        return book

    def replayed(self):
        """Return a new book in which all entries were done again in order from the origin."""
        book = Book(self.origin)
        for entry in self.entries():
            book.do(entry)
        book.steps = self._steps
        return book

    def _require_room(self):
        if len(self._entries) == MOST_ENTRIES:
            raise TooMany(MOST_ENTRIES + 1, MOST_ENTRIES)

    def _add(self, entry, world):
        self._entries.append(entry)
        self._worlds.append(world)

    def _add_change(self, entry, yard):
        """Add an entry that changes the yard and leaves all boxes where they are."""
        self._add(entry, World(yard, self.world.table()))


def _with(names, name):
    return list(names) + [name]


def _without(names, name):
    return [other for other in names if other != name]
