"""The errors of the program, each with what it tells as attributes."""


class NestError(ValueError):
    """The base of all errors of the program; never raised itself."""


class Refusal(NestError):
    """The base of the reasons for which a deed is refused [22]; never raised itself."""


class BadName(NestError):
    """A string that is not a name, or not one that is short enough."""

    def __init__(self, name):
        self.name = name


class BadWeight(NestError):
    """A value that is not an own weight, or not one that is small enough."""

    def __init__(self, weight):
        self.weight = weight


class BadNumber(NestError):
    """A value that is not an allowed number."""

    def __init__(self, number):
        self.number = number


class BadCount(NestError):
    """A number of things that is not allowed."""

    def __init__(self, what, many):
        self.what = what
        self.many = many


class Twice(NestError):
    """A name that occurs a second time."""

    def __init__(self, name):
        self.name = name


class Unknown(NestError):
    """A name that is not what is asked for in the yard or table."""

    def __init__(self, name):
        self.name = name


class NoHolder(NestError):
    """A box without a holder."""

    def __init__(self, name):
        self.name = name


class Loop(NestError):
    """A box that lies within itself."""

    def __init__(self, name):
        self.name = name


class Short(NestError):
    """A number that a bag does not have often enough."""

    def __init__(self, number):
        self.number = number


class BadText(NestError):
    """A fault in a line of a text that is read."""

    def __init__(self, line, fault):
        self.line = line
        self.fault = fault


class OtherYard(NestError):
    """Two worlds have unequal yards."""


class Same(Refusal):
    """The two names of a deed are equal."""

    def __init__(self, name):
        self.name = name


class Inside(Refusal):
    """One box of a deed lies within the other one."""

    def __init__(self, inner, outer):
        self.inner = inner
        self.outer = outer


class Unlike(Refusal):
    """The full weights of the boxes of a deed differ."""

    def __init__(self, first, second, first_weight, second_weight):
        self.first = first
        self.second = second
        self.first_weight = first_weight
        self.second_weight = second_weight


class Nailed(Refusal):
    """A box is nailed."""

    def __init__(self, name):
        self.name = name


class Sealed(Refusal):
    """A holder is sealed."""

    def __init__(self, name):
        self.name = name


class Idle(Refusal):
    """Two boxes have the same holder, or an arrow goes to where it comes from."""

    def __init__(self, name):
        self.name = name


class Broken(NestError):
    """A deed of a history is refused."""

    def __init__(self, at, reason):
        self.at = at
        self.reason = reason


class NotComing(NestError):
    """The second world does not come of the first one."""

    def __init__(self, bar):
        self.bar = bar


class Unbalanced(NestError):
    """A place that different numbers of arrows come from and go to."""

    def __init__(self, name):
        self.name = name


class TooMany(NestError):
    """More things than a search or a book is allowed."""

    def __init__(self, many, limit):
        self.many = many
        self.limit = limit


class BadWish(NestError):
    """A faulty wish, sighting or step of a chain."""

    def __init__(self, at):
        self.at = at


class Clash(NestError):
    """A name that two parts both have."""

    def __init__(self, name):
        self.name = name


class OtherDoors(NestError):
    """Two pieces have different door names."""


class NoStory(NestError):
    """A diary has no journey, or no story."""


class BadOrder(NestError):
    """A fault in a line of an order that is read."""

    def __init__(self, line, fault):
        self.line = line
        self.fault = fault


class OrderRefused(NestError):
    """A statement or test of a running program is refused."""

    def __init__(self, line, reason, deeds):
        self.line = line
        self.reason = reason
        self.deeds = deeds


class OutOfSteps(NestError):
    """A running program would need one more step than is allowed."""

    def __init__(self, line, deeds):
        self.line = line
        self.deeds = deeds


class NotEmpty(NestError):
    """A box that holds something."""

    def __init__(self, name):
        self.name = name


class NoChange(NestError):
    """A name whose state is already the wanted one."""

    def __init__(self, name):
        self.name = name


class NothingDone(NestError):
    """A book without entries."""


class BadClaim(NestError):
    """A value that is not a claim."""

    def __init__(self, claim):
        self.claim = claim
