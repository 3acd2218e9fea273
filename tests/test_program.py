"""The whole program: points [1], [2] and [4], and the names of the interface."""

import importlib
import inspect
import unittest

from nestweigh.bags import Bag
from nestweigh.books import Book
from nestweigh.diaries import Diary
from nestweigh.pieces import Piece, Surrounding
from nestweigh.renamings import Renaming
from nestweigh.texts import parse_world
from nestweigh.webs import Web
from nestweigh.worlds import World
from nestweigh.yards import Yard
from tests.support import Case

FUNCTIONS = {
    "names": ["is_name", "valid_name", "valid_weight", "ordered", "fresh_name"],
    "bags": ["arrangements"],
    "worlds": ["require_same_yard"],
    "texts": ["format_yard", "format_world", "parse_yard", "parse_world"],
    "renamings": ["identity", "rename_yard", "rename_world", "rename_deeds"],
    "holding": [
        "chain", "is_within", "held", "all_held", "full_weight", "full_weights", "depth", "height", "meeting",
        "by_weight", "sub_world", "total_weight",
    ],
    "deeds": ["why_refused", "is_possible", "exchange", "possible_deeds", "partners"],
    "histories": [
        "replay", "judged", "walk", "worlds_along", "reversed_deeds", "reduced", "without_loops", "joined", "cut",
        "trail", "moving",
    ],
    "slots": [
        "is_free", "free_boxes", "fixed_boxes", "bag", "bags", "free_weights", "pool", "slots", "mark",
    ],
    "passage": [
        "bar", "comes", "is_bar", "history", "is_history", "verdict", "is_verdict", "grouped",
    ],
    "fewest": [
        "moving_weights", "web_of", "circuit_deeds", "fewest", "shortest", "certificate", "is_certificate",
    ],
    "lengths": ["levers", "companions", "lengths", "can_take", "next_length", "history_of_length"],
    "classes": [
        "factors", "count", "rank", "world_at", "least", "following", "listed", "neighbours", "distances",
        "farthest", "between",
    ],
    "may": [
        "may_hold", "must_hold", "may_within", "must_within", "depths", "deepest", "rising_chain", "is_chain",
        "closed_set", "is_closed_set", "world_of_chain",
    ],
    "wishes": ["holds", "unmet", "grant", "is_granted", "is_denied", "count_granted", "may_given"],
    "sameness": [
        "kind", "card", "form", "class_form", "alike", "class_alike", "likeness", "class_likeness", "is_likeness",
        "is_class_likeness", "likenesses", "class_likenesses", "difference", "class_difference",
    ],
    "pieces": ["glue", "piece_mark", "alike_everywhere", "telling", "is_telling"],
    "diaries": [
        "struck", "story", "is_story", "possible", "may_at", "must_at", "first_unfit", "cost_table", "fewest_wrong",
        "wrong_set", "is_wrong_set", "is_cost_table",
    ],
    "repairs": [
        "nails_to_draw", "seals_to_break", "unequal_holders", "weighings", "least_repair", "repaired", "is_repair",
    ],
    "orders": ["parse_program", "format_program", "statements", "blocks", "names_used", "rename_program"],
    "running": ["run", "outcome", "partner_for", "first_unlike", "as_program"],
    "audits": [
        "claim_holds", "worlds_of", "standing", "broken_at", "audit", "compare", "format_book", "parse_book",
    ],
}
CLASSES = {
    ("bags", "Bag"): [
        "__init__", "__iter__", "__len__", "__contains__", "__eq__", "__add__", "__sub__", "numbers", "total",
        "times", "table", "within", "counted",
    ],
    ("yards", "Yard"): [
        "__init__", "__iter__", "__len__", "__contains__", "__eq__", "shelves", "boxes", "nailed", "sealed",
        "holders", "own", "is_nailed", "is_sealed", "is_box", "is_shelf", "changed", "MOST_SHELVES", "MOST_BOXES",
    ],
    ("worlds", "World"): [
        "__init__", "__iter__", "__len__", "__eq__", "yard", "row", "holder", "table", "moved", "from_row",
    ],
    ("renamings", "Renaming"): [
        "__init__", "__iter__", "__len__", "__eq__", "__call__", "__invert__", "__mul__", "table",
    ],
    ("webs", "Web"): [
        "__init__", "__iter__", "__len__", "__eq__", "arrows", "most", "circuits", "table", "is_circuit", "is_trail",
        "is_split", "is_bound", "parts", "closed_trails", "MOST_SEARCHED",
    ],
    ("pieces", "Piece"): ["__init__", "__eq__", "__add__", "world", "doors"],
    ("pieces", "Surrounding"): ["__init__", "world", "place", "places"],
    ("diaries", "Diary"): ["__init__", "world", "moments", "from_start", "gaps", "sightings"],
    ("books", "Book"): [
        "__init__", "__len__", "world", "origin", "steps", "entries", "claims", "exchange", "carry", "run", "bring",
        "take", "weigh", "nail", "draw", "seal", "unseal", "file", "do", "undo", "twin", "replayed",
    ],
}

# The parameters behind a bare * [2]; all others are passed by position.
KEYWORDS = {
    "names.fresh_name": ["stem"],
    "yards.Yard.__init__": ["nailed", "sealed"],
    "yards.Yard.changed": ["boxes", "nailed", "sealed"],
    "diaries.Diary.__init__": ["from_start"],
    "repairs.repaired": ["nails", "seals", "weights"],
    "running.run": ["steps"],
    "running.outcome": ["steps"],
    "running.first_unlike": ["steps"],
    "books.Book.run": ["steps"],
    "books.Book.bring": ["nailed", "sealed"],
}


class Interface(Case):
    """[1]: everything stands in the module under whose heading it is listed."""

    def test_functions(self):
        for module, names in FUNCTIONS.items():
            for name in names:
                found = getattr(importlib.import_module(f"nestweigh.{module}"), name)
                self.assertEqual(found.__module__, f"nestweigh.{module}", name)

    def test_classes_with_all_their_methods(self):
        for (module, name), parts in CLASSES.items():
            found = getattr(importlib.import_module(f"nestweigh.{module}"), name)
            self.assertEqual(found.__module__, f"nestweigh.{module}")
            for part in parts:
                self.assertIn(part, vars(found), name)

    def test_parameters_that_are_passed_by_keyword(self):
        calls = {f"{module}.{name}": getattr(importlib.import_module(f"nestweigh.{module}"), name)
                 for module, names in FUNCTIONS.items() for name in names}
        for (module, name), parts in CLASSES.items():
            found = getattr(importlib.import_module(f"nestweigh.{module}"), name)
            for part in parts:
                if inspect.isroutine(getattr(found, part)):
                    calls[f"{module}.{name}.{part}"] = getattr(found, part)
        for place, call in calls.items():
            parameters = inspect.signature(call).parameters.values()
            found = [parameter.name for parameter in parameters if parameter.kind is parameter.KEYWORD_ONLY]
            self.assertEqual(found, KEYWORDS.get(place, []), place)
        self.assertLessEqual(set(KEYWORDS), set(calls))


class Objects(Case):
    """[4]: objects never change."""

    def test_properties_are_not_assigned(self):
        world = parse_world("shelf a\nbox b 1 in a")
        for found, names in [
            (Bag([1]), ["numbers", "total"]),
            (world.yard, ["shelves", "boxes", "nailed", "sealed", "holders"]),
            (world, ["yard", "row"]),
            (Web([]), ["arrows"]),
            (Piece(world), ["world", "doors"]),
            (Surrounding(world, {}), ["world"]),
            (Diary(world, [], []), ["world", "moments", "from_start"]),
            (Book(world), ["world", "origin"]),
        ]:
            for name in names:
                with self.assertRaises(AttributeError):
                    setattr(found, name, ())

    def test_objects_made_by_equal_calls_are_equal(self):
        self.assertTrue(Bag([1, 2]) == Bag([1, 2]))
        self.assertTrue(Yard(["a"], {"b": 1}) == Yard(["a"], {"b": 1}))
        self.assertTrue(World(Yard(["a"], {"b": 1}), {"b": "a"}) == World(Yard(["a"], {"b": 1}), {"b": "a"}))
        self.assertTrue(Renaming({"a": "b"}) == Renaming({"a": "b"}))
        self.assertTrue(Web([("a", "b", "c"), ("b", "c", "b")]) == Web([("a", "b", "c"), ("b", "c", "b")]))
        self.assertTrue(Piece(parse_world("shelf a\nbox b 1 in a")) == Piece(parse_world("shelf a\nbox b 1 in a")))

    def test_objects_of_different_classes_are_not_equal(self):
        yard = Yard(["a"], {"b": 1})
        world = World(yard, {"b": "a"})
        found = [Bag(), yard, world, Renaming({}), Web([]), Piece(world), Surrounding(world, {}), Diary(world, [], [])]
        for first in found:
            for second in found:
                self.assert_same(first == second, first is second)
                self.assert_same(first != second, first is not second)


if __name__ == "__main__":
    unittest.main()
