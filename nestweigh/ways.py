"""What steps from names to names lead to: a dict tells for some names the names one step on."""

from nestweigh.judging import are_strings


def reached(steps, name, barred):
    """Return all that the steps from the name lead to without the barred name, ascending."""
    found = []
    queue = [name]
    while len(queue) > 0:
        here = queue.pop()
        for place in steps.get(here, []):
            if place != barred and place not in found:
                found.append(place)
                queue.append(place)
    return sorted(found)


def shortest_way(steps, name, goal):
    """Return the names of a shortest way from the name to the goal, None if there is none."""
    found = {name: [name]}
    queue = [name]
    while len(queue) > 0:
        here = queue.pop(0)
        for place in steps.get(here, []):
            if place not in found:
                found[place] = found[here] + [place]
                queue.append(place)
    return found.get(goal, None)


def is_closed(steps, known, names):
    """Tell whether the names are ascending, each once, all known, and no step leads out of them."""
    if not are_strings(names) or list(names) != sorted(set(names)):
        return False
    if not all([name in known for name in names]):
        return False
    return all([place in names for name in names for place in steps.get(name, [])])
