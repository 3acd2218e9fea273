"""Running programs [73] with counted steps [74]."""

from nestweigh.classes import listed, require_few
from nestweigh.deeds import after_deed, is_possible, why_refused
from nestweigh.errors import BadNumber, OrderRefused, OutOfSteps
from nestweigh.holding import full_weight, held, is_within
from nestweigh.names import is_number, lesser_first
from nestweigh.orders import canonical_lines
from nestweigh.yards import is_holder, require_box

MOST_STEPS = 60
MOST_RUN_FROM = 12


class Runner:
    """A run as it is by now: the world, the deeds done, and the number of steps left."""

    def __init__(self, world, steps):
        self._here = world
        self._deeds = []
        self._left = steps

    def ended(self):
        """Return the world and the deeds that led to it."""
        return self._here, list(self._deeds)

    def do_all(self, program, line, names):
        """Do the statements, the first of which has its place in this line.

        The names tell for each variable what it stands for.
        """
        place = line
        for statement in program:
            self._do(statement, place, names)
            place += len(canonical_lines((statement,)))

    def _do(self, statement, line, names):
        word = statement[0]
        if word == "exchange":
            self._exchange(_name_of(statement[1], names), _name_of(statement[2], names), line)
        elif word == "bring":
            self._bring(_name_of(statement[1], names), _name_of(statement[2], names), line)
        elif word == "if":
            self._do_if(statement, line, names)
        elif word == "while":
            while self._passes(statement[1], line, names):
                self.do_all(statement[2], line + 1, names)
        elif word == "repeat":
            self._do_repeat(statement, line, names)
        else:
            self._do_each(statement, line, names)

    def _exchange(self, first, second, line):
        self._step(line)
        reason = why_refused(self._here, first, second)
        if reason is not None:
            self._refuse(line, reason)
        self._change(first, second)

    def _bring(self, box, holder, line):
        self._step(line)
        yard = self._here.yard
        if not yard.is_box(box):
            self._refuse(line, ("unknown", box))
        if not is_holder(yard, holder):
            self._refuse(line, ("unknown", holder))
        if self._here.holder(box) == holder:
            return
        partner = partner_for(self._here, box, holder)
        if partner is None:
            self._refuse(line, ("nobody", box, holder))
        self._change(box, partner)

    def _do_if(self, statement, line, names):
        _, condition, body, other = statement
        if self._passes(condition, line, names):
            self.do_all(body, line + 1, names)
        else:
            # The other statements stand behind the line of the "else".
            self.do_all(other, line + len(canonical_lines(body)) + 2, names)

    def _do_repeat(self, statement, line, names):
        _, body, condition = statement
        last = line + len(canonical_lines(body)) + 1
        self.do_all(body, line + 1, names)
        while not self._passes(condition, last, names):
            self.do_all(body, line + 1, names)

    def _do_each(self, statement, line, names):
        _, variable, term, body = statement
        holder = _name_of(term, names)
        if not is_holder(self._here.yard, holder):
            self._refuse(line, ("unknown", holder))
        noted = held(self._here, holder)
        for box in noted:
            self._step(line)
            self.do_all(body, line + 1, {**names, variable: box})

    def _passes(self, condition, line, names):
        """Count the test of the condition as a step, and tell whether it holds."""
        self._step(line)
        return self._holds(condition, line, names)

    def _holds(self, condition, line, names):
        if condition[0] == "not":
            return not self._holds(condition[1], line, names)
        word = condition[0]
        first, second = _name_of(condition[1], names), _name_of(condition[2], names)
        here, yard = self._here, self._here.yard
        if not yard.is_box(first):
            self._refuse(line, ("unknown", first))
        if not is_holder(yard, second) or (word == "like" and not yard.is_box(second)):
            self._refuse(line, ("unknown", second))
        if word == "in":
            return here.holder(first) == second
        if word == "within":
            return is_within(here, first, second)
        return full_weight(here, first) == full_weight(here, second)

    def _step(self, line):
        if self._left == 0:
            raise OutOfSteps(line, list(self._deeds))
        self._left -= 1

    def _refuse(self, line, reason):
        raise OrderRefused(line, reason, list(self._deeds))

    def _change(self, first, second):
        self._here = after_deed(self._here, first, second)
        self._deeds.append(lesser_first(first, second))


def run(program, world, *, steps=40):
    """Return the world at the end of the run, and the list of its deeds."""
    require_steps(steps)
    runner = Runner(world, steps)
    runner.do_all(program, 1, {})
    return runner.ended()


def outcome(program, world, *, steps=40):
    """Return how the run ends: "done", "refused" or "out", each with what is to be told."""
    try:
        found, deeds = run(program, world, steps=steps)
    except OrderRefused as refusal:
        return "refused", refusal.line, refusal.reason, refusal.deeds
    except OutOfSteps as lack:
        return "out", lack.line, lack.deeds
    return "done", found, deeds


def partner_for(world, box, holder):
    """Return the least box in the holder with which "bring" would exchange the box, or None."""
    require_box(world.yard, box)
    # With the boxes beside it no deed is possible, so that there is none if it lies in the holder already.
    found = [other for other in held(world, holder) if is_possible(world, box, other)]
    return found[0] if len(found) > 0 else None


def first_unlike(first, second, world, *, steps=40):
    """Return the rank of the first world of the class from which the runs end unlike, or None."""
    require_steps(steps)
    require_few(world, MOST_RUN_FROM)
    for number, here in enumerate(listed(world)):
        if _end_of(first, here, steps) != _end_of(second, here, steps):
            return number
    return None


def as_program(deeds):
    """Return the program with one "exchange" for each deed."""
    return tuple([("exchange", first, second) for first, second in deeds])


def require_steps(steps):
    """Raise BadNumber if this is not an allowed number of steps."""
    if not is_number(steps, 0, MOST_STEPS):
        raise BadNumber(steps)


def _end_of(program, world, steps):
    """Return the world at the end of a run that is done, None if it is not."""
    told = outcome(program, world, steps=steps)
    return told[1] if told[0] == "done" else None


def _name_of(term, names):
    """Return what a variable stands for, and a name as it is."""
    return names.get(term, term)
