"""What is the same up to names: kinds and likenesses [53], [54], cards and class likenesses [55], [56].

Both pairs are built alike. A view of a world is a tuple (roots, inner, texts): the names that the
text of the whole world lists, a dict from each name to the names that its own text lists, and a
dict from each name to its text. Two worlds are the same if their roots have the same texts.
"""

from math import factorial

from nestweigh.holding import held
from nestweigh.passage import comes
from nestweigh.renamings import Renaming, rename_world, rename_yard
from nestweigh.slots import bags, fixed_boxes, free_boxes
from nestweigh.yards import require_holder


def kind(world, name):
    """Return the kind [53] of a box or shelf."""
    require_holder(world.yard, name)
    inner = sorted([kind(world, box) for box in held(world, name)])
    return _head(world.yard, name) + "[" + ",".join(inner) + "]"


def card(world, name):
    """Return the card [55] of a box or shelf."""
    require_holder(world.yard, name)
    weights = ",".join([str(weight) for weight in bags(world)[name]])
    fixed = fixed_boxes(world)
    inner = sorted([card(world, box) for box in held(world, name) if box in fixed])
    return _head(world.yard, name) + "{" + weights + "}[" + ",".join(inner) + "]"


def form(world):
    """Return the form [53] of a world."""
    return _whole(_kind_view(world))


def class_form(world):
    """Return the class form [55] of a world."""
    return _whole(_card_view(world))


def alike(first, second):
    """Tell whether there is a likeness [54]."""
    return form(first) == form(second)


def class_alike(first, second):
    """Tell whether there is a class likeness [56]."""
    return class_form(first) == class_form(second)


def likeness(first, second):
    """Return a likeness [54] from the first world to the second one, None if there is none."""
    return _matching(_kind_view(first), _kind_view(second))


def class_likeness(first, second):
    """Return a class likeness [56] from the first world to the second one, None if there is none."""
    return _matching(_card_view(first), _card_view(second))


def is_likeness(first, second, renaming):
    """Tell whether the renaming is a likeness [54]."""
    if list(renaming) != list(first.yard.holders):
        return False
    return rename_world(first, renaming) == second


def is_class_likeness(first, second, renaming):
    """Tell whether the renaming is a class likeness [56]."""
    if list(renaming) != list(first.yard.holders):
        return False
    if rename_yard(first.yard, renaming) != second.yard:
        return False
    return comes(second, rename_world(first, renaming))


def likenesses(first, second):
    """Return the number of likenesses [54] from the first world to the second one."""
    return _ways(_kind_view(first)) if alike(first, second) else 0


def class_likenesses(first, second):
    """Return the number of class likenesses [56] from the first world to the second one."""
    return _ways(_card_view(first)) if class_alike(first, second) else 0


def difference(first, second):
    """Return the least kind that occurs differently often, with both numbers, None if there is none."""
    ours, theirs = _kind_view(first)[2], _kind_view(second)[2]
    return _least_difference(list(ours.values()), list(theirs.values()))


def class_difference(first, second):
    """Return the least card that occurs differently often, with both numbers, None if there is none.

    Only the cards of shelves and free boxes are counted.
    """
    return _least_difference(_root_texts(_card_view(first)), _root_texts(_card_view(second)))


def _head(yard, name):
    """Return what stands before the brackets of a kind and a card."""
    head = "#"
    if yard.is_box(name):
        head = str(yard.own(name))
        if yard.is_nailed(name):
            head = head + "n"
    return head + "s" if yard.is_sealed(name) else head


def _kind_view(world):
    inner = {name: held(world, name) for name in world.yard.holders}
    return list(world.yard.shelves), inner, {name: kind(world, name) for name in inner}


def _card_view(world):
    # A free box has no place of its own in its class: it stands beside the shelves.
    fixed = fixed_boxes(world)
    inner = {name: [box for box in held(world, name) if box in fixed] for name in world.yard.holders}
    roots = list(world.yard.shelves) + free_boxes(world)
    return roots, inner, {name: card(world, name) for name in inner}


def _root_texts(view):
    roots, _, texts = view
    return [texts[name] for name in roots]


def _whole(view):
    """Return the text of the whole world."""
    return " ".join(sorted(_root_texts(view)))


def _matching(first, second):
    """Return the renaming that takes each name to one with the same text, None if there is none."""
    if _whole(first) != _whole(second):
        return None
    table = {}
    queue = [(first[0], second[0])]
    while len(queue) > 0:
        ours, theirs = queue.pop()
        for name, other in zip(_by_text(ours, first), _by_text(theirs, second)):
            table[name] = other
            queue.append((first[1][name], second[1][other]))
    return Renaming(table)


def _by_text(names, view):
    """Return the names in the order of their texts."""
    texts = view[2]
    return sorted(names, key=lambda name: texts[name])


def _ways(view):
    """Return the number of ways to exchange names of equal texts, wherever they stand together."""
    roots, inner, texts = view
    ways = 1
    for names in [roots] + list(inner.values()):
        found = [texts[name] for name in names]
        for text in sorted(set(found)):
            ways *= factorial(found.count(text))
    return ways


def _least_difference(ours, theirs):
    for text in sorted(set(ours + theirs)):
        if ours.count(text) != theirs.count(text):
            return text, ours.count(text), theirs.count(text)
    return None
