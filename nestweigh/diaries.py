"""Diaries [62]: what worlds may have followed one another, told by gaps and sightings [63] to [66]."""

from nestweigh.classes import count, listed, neighbours, rank, require_few
from nestweigh.errors import BadCount, BadNumber, BadWish, NoStory
from nestweigh.judging import is_sequence
from nestweigh.names import is_number
from nestweigh.wishes import is_wish, unmet, wish_holds
from nestweigh.yards import require_box

MOST_WORLDS = 24
MOST_GAPS = 7
MOST_DEEDS = 3
MOST_SIGHTINGS = 12


class Diary:
    """A world, the gaps between the moments, and what was seen at them [62], [63]."""

    def __init__(self, world, gaps, sightings, *, from_start=True):
        require_few(world, MOST_WORLDS)
        if len(gaps) > MOST_GAPS:
            raise BadCount("gaps", len(gaps))
        _require_gaps(gaps)
        if len(sightings) > MOST_SIGHTINGS:
            raise BadCount("sightings", len(sightings))
        _require_sightings(world.yard, sightings, len(gaps))
        self._world = world
        self._gaps = tuple(gaps)
        self._sightings = tuple(sightings)
        self._from_start = from_start

    @property
    def world(self):
        """The world of the diary."""
        return self._world

    @property
    def moments(self):
        """The number of moments."""
        return len(self._gaps) + 1

    @property
    def from_start(self):
        """Whether the world of moment 0 is the world of the diary."""
        return self._from_start

    def gaps(self):
        """Return the gaps in their order."""
        return list(self._gaps)

    def sightings(self):
        """Return the sightings in the order in which they were passed."""
        return list(self._sightings)


def struck(diary, indexes):
    """Return a new diary without the sightings at these indexes."""
    seen = diary.sightings()
    for at in indexes:
        if not is_number(at, 0, len(seen) - 1):
            raise BadNumber(at)
    kept = [sighting for at, sighting in enumerate(seen) if at not in indexes]
    return Diary(diary.world, diary.gaps(), kept, from_start=diary.from_start)


def story(diary):
    """Return a world for each moment such that all sightings are right, None if there is no story."""
    worlds = _best_journey(diary)
    if worlds is None or len(_wrong_in(diary, worlds)) > 0:
        return None
    return worlds


def is_story(diary, worlds):
    """Tell whether the worlds are a story [64] of the diary."""
    if len(worlds) != diary.moments or not all([world.yard == diary.world.yard for world in worlds]):
        return False
    if diary.from_start and worlds[0] != diary.world:
        return False
    rows = _rows(diary)
    if not all([world.row in rows for world in worlds]):
        return False
    ranks = [rows.index(world.row) for world in worlds]
    if not all([after in lead[here] for lead, here, after in zip(_leads(diary), ranks, ranks[1:])]):
        return False
    return len(_wrong_in(diary, worlds)) == 0


def possible(diary, moment):
    """Return the worlds that some story has at the moment, ascending."""
    if not is_number(moment, 0, diary.moments - 1):
        raise BadNumber(moment)
    leads = _leads(diary)
    table = _costs(diary, leads)
    # From the end back to the moment: the worlds from which a story goes on to the end.
    right = [at for at, cost in enumerate(table[-1]) if cost == 0]
    for before in range(len(leads) - 1, moment - 1, -1):
        begun = [at for at, cost in enumerate(table[before]) if cost == 0]
        right = [at for at in begun if any([after in right for after in leads[before][at]])]
    worlds = listed(diary.world)
    return [worlds[at] for at in right]


def may_at(diary, moment, box):
    """Return the holders that the box has at the moment in some story, ascending."""
    worlds = possible(diary, moment)
    require_box(diary.world.yard, box)
    return sorted(set([world.holder(box) for world in worlds]))


def must_at(diary, moment, box):
    """Return the only holder that the box has at the moment in a story, None if there are several."""
    places = may_at(diary, moment, box)
    if len(places) == 0:
        raise NoStory()
    return places[0] if len(places) == 1 else None


def first_unfit(diary):
    """Return the index of the first sighting that leaves no story with those before it, or None."""
    if _best_journey(diary) is None:
        raise NoStory()
    many = len(diary.sightings())
    for at in range(many):
        if story(struck(diary, list(range(at + 1, many)))) is None:
            return at
    return None


def cost_table(diary):
    """Return the cost table [65] of the diary."""
    return _costs(diary, _leads(diary))


def fewest_wrong(diary):
    """Return the least number of sightings that are wrong in a journey."""
    return len(wrong_set(diary))


def wrong_set(diary):
    """Return the fewest sightings, by their indexes, without which the diary has a story."""
    worlds = _best_journey(diary)
    if worlds is None:
        raise NoStory()
    return _wrong_in(diary, worlds)


def is_wrong_set(diary, indexes):
    """Tell whether the diary has a story without the sightings at these ascending indexes."""
    many = len(diary.sightings())
    if not all([is_number(at, 0, many - 1) for at in indexes]):
        return False
    if list(indexes) != sorted(set(indexes)):
        return False
    return story(struck(diary, indexes)) is not None


def is_cost_table(diary, table, number):
    """Tell whether the table bounds the diary [66] with this number as its least last entry."""
    many = count(diary.world)
    if len(table) != diary.moments or not all([_is_costs(costs, many) for costs in table]):
        return False
    wrongs = _wrongs(diary)
    if not _is_under(table[0], _first_costs(diary, wrongs[0])):
        return False
    for before, after, lead, wrong in zip(table, table[1:], _leads(diary), wrongs[1:]):
        if not _is_under(after, _costs_after(before, lead, wrong)):
            return False
    ends = [cost for cost in table[-1] if cost is not None]
    return len(ends) > 0 and min(ends) == number


def _require_gaps(gaps):
    for low, high in gaps:
        if not is_number(low, 0, MOST_DEEDS):
            raise BadNumber(low)
        if not is_number(high, low, MOST_DEEDS):
            raise BadNumber(high)


def _require_sightings(yard, sightings, last):
    for at, sighting in enumerate(sightings):
        if not is_number(sighting[0], 0, last):
            raise BadNumber(sighting[0])
        if not is_wish(yard, sighting[1:]):
            raise BadWish(at)


def _rows(diary):
    """Return the rows of the worlds of the class, by their ranks."""
    return [world.row for world in listed(diary.world)]


def _leads(diary):
    """Return for each gap and each rank the ranks that the gap can lead to."""
    worlds = listed(diary.world)
    ranks = {world.row: at for at, world in enumerate(worlds)}
    beside = [[ranks[other.row] for other in neighbours(world)] for world in worlds]
    # For each number of deeds and each rank the ranks that just so many deeds lead to.
    reach = [[[at] for at in range(len(worlds))]]
    for _ in range(MOST_DEEDS):
        reach.append(_one_further(reach[-1], beside))
    return [_led(reach[low:high + 1]) for low, high in diary.gaps()]


def _one_further(ends, beside):
    """Return for each of the lists of ranks the ranks that one more deed leads to."""
    return [sorted(set([after for here in found for after in beside[here]])) for found in ends]


def _led(reach):
    """Return for each rank the ranks that some of these numbers of deeds lead to."""
    many = len(reach[0])
    return [sorted(set([after for ends in reach for after in ends[at]])) for at in range(many)]


def _wrongs(diary):
    """Return for each moment and each rank the number of sightings that are wrong."""
    worlds = listed(diary.world)
    found = []
    for moment in range(diary.moments):
        wishes = [sighting[1:] for sighting in diary.sightings() if sighting[0] == moment]
        found.append([len(unmet(world, wishes)) for world in worlds])
    return found


def _costs(diary, leads):
    """Return the cost table, given where the gaps can lead."""
    wrongs = _wrongs(diary)
    table = [_first_costs(diary, wrongs[0])]
    for lead, wrong in zip(leads, wrongs[1:]):
        table.append(_costs_after(table[-1], lead, wrong))
    return table


def _first_costs(diary, wrong):
    """Return the costs at moment 0: None for each world that the beginning does not allow."""
    if not diary.from_start:
        return wrong
    begun = rank(diary.world)
    return [cost if at == begun else None for at, cost in enumerate(wrong)]


def _costs_after(costs, lead, wrong):
    """Return the least costs after a gap that follow from the costs before it."""
    found = [None] * len(costs)
    for here, cost in enumerate(costs):
        if cost is not None:
            for after in lead[here]:
                if found[after] is None or cost + wrong[after] < found[after]:
                    found[after] = cost + wrong[after]
    return found


def _best_journey(diary):
    """Return the worlds of a journey with the fewest wrong sightings, None if there is no journey."""
    leads = _leads(diary)
    table = _costs(diary, leads)
    here = _cheapest(table[-1], list(range(len(table[-1]))))
    if here is None:
        return None
    ranks = [here]
    for moment in reversed(range(len(leads))):
        # What is least here came from what is least among the worlds that lead here.
        before = [at for at, ends in enumerate(leads[moment]) if ranks[0] in ends]
        ranks.insert(0, _cheapest(table[moment], before))
    worlds = listed(diary.world)
    return [worlds[at] for at in ranks]


def _cheapest(costs, ranks):
    """Return the first of the ranks with the least cost, None if none of them has a cost."""
    known = [at for at in ranks if costs[at] is not None]
    return min(known, key=lambda at: costs[at], default=None)


def _wrong_in(diary, worlds):
    """Return the indexes of the sightings that are wrong in the sequence of worlds, ascending."""
    return [at for at, seen in enumerate(diary.sightings()) if not wish_holds(worlds[seen[0]], seen[1:])]


def _is_costs(costs, many):
    if not is_sequence(costs) or len(costs) != many:
        return False
    return all([cost is None or isinstance(cost, int) for cost in costs])


def _is_under(costs, asked):
    """Tell whether each cost that is asked for is there and at most as great."""
    pairs = [(cost, most) for cost, most in zip(costs, asked) if most is not None]
    return all([cost is not None and cost <= most for cost, most in pairs])
