"""nestweigh/webs.py: points [3], [4], [5] and [35] to [39]."""

import itertools
import random
import unittest

from nestweigh.errors import BadCount, BadName, Idle, TooMany, Twice, Unbalanced
from nestweigh.webs import Web
from tests.support import WEIRD, Case, wrong_things

SHOWN = [("x", "a", "b"), ("y", "b", "a"), ("z", "a", "c"), ("w", "c", "a")]
# Seven arrows of one part: a round of three places, and two rounds of two places.
SEVEN = [("m", "a", "b"), ("n", "b", "c"), ("o", "c", "a"), ("p", "a", "c"), ("q", "c", "a")] + [
    ("r", "b", "d"), ("s", "d", "b"),
]
BAD_NAMES = ["", "A", "1a", "a b", "abcdefghi", "a-"]


def ring(many):
    """One circuit of so many arrows."""
    return [(f"b{at:02}", f"p{at}", f"p{(at + 1) % many}") for at in range(many)]


def pairs(many):
    """So many arrows, two by two there and back between places of their own."""
    there = [(f"b{at:02}", f"p{at}", f"q{at}") for at in range(many // 2)]
    return there + [(f"c{box}"[:8], target, source) for box, source, target in there]


def between_two(many):
    """So many arrows between two places, half of them in each direction."""
    return [(f"b{at:02}", "pq"[at % 2], "qp"[at % 2]) for at in range(many)]


def slow_circuits(arrows):
    """All sets of arrows that some order makes a circuit."""
    found = []
    for many in range(1, len(arrows) + 1):
        for chosen in itertools.combinations(arrows, many):
            if any(is_round(order) for order in itertools.permutations(chosen)):
                found.append(frozenset(chosen))
    return found


def is_round(order):
    follows = all(first[2] == second[1] for first, second in zip(order, order[1:] + order[:1]))
    return follows and len({arrow[1] for arrow in order}) == len(order)


def slow_most(circuits, arrows):
    """The greatest number of circuits without a common arrow, tried out."""
    inside = [circuit for circuit in circuits if circuit <= arrows]
    return max([0] + [1 + slow_most(circuits, arrows - circuit) for circuit in inside])


def slow_table(web):
    arrows = web.arrows
    circuits = slow_circuits(arrows)
    return [
        slow_most(circuits, frozenset(arrow for at, arrow in enumerate(arrows) if index & 2**at))
        for index in range(2 ** len(arrows))
    ]


def random_webs(number, most):
    """Webs of at most so many arrows over few places: rounds laid over each other."""
    chance = random.Random(7)
    for _ in range(number):
        arrows = []
        while True:
            places = chance.sample("abcde", chance.randint(2, 4))
            if len(arrows) + len(places) > most:
                break
            arrows += [(source, target) for source, target in zip(places, places[1:] + places[:1])]
        chance.shuffle(arrows)
        yield Web([(f"b{at:02}", source, target) for at, (source, target) in enumerate(arrows)])


class Examples(Case):
    def test_of_the_document(self):
        web = Web([("x", "a", "b"), ("y", "b", "a"), ("z", "a", "c"), ("w", "c", "a")])
        self.assert_same(web.most(), 2)
        self.assert_same(
            (web.is_circuit(["x", "y"]), web.is_circuit(["x", "y", "z", "w"]), web.is_trail(["x", "y", "z", "w"])),
            (True, False, True),
        )
        self.assert_same(web.parts(), [["w", "x", "y", "z"]])


class Made(Case):
    """[35]"""

    def test_the_arrows_are_ascending_by_box(self):
        for arrows in itertools.permutations(SHOWN):
            for given in (arrows, list(arrows)):
                web = Web(given)
                self.assert_same(web.arrows, (SHOWN[3], SHOWN[0], SHOWN[1], SHOWN[2]))
                self.assert_same(list(web), [SHOWN[3], SHOWN[0], SHOWN[1], SHOWN[2]])
                self.assert_same(len(web), 4)
                self.assertTrue(web == Web(SHOWN))

    def test_the_empty_web(self):
        for given in ([], ()):
            web = Web(given)
            self.assert_same((web.arrows, len(web), list(web)), ((), 0, []))
            self.assert_same((web.most(), web.circuits(), web.table()), (0, [], [0]))
            self.assert_same((web.parts(), web.closed_trails()), ([], []))
            self.assert_same((web.is_circuit([]), web.is_trail(()), web.is_circuit(["x"])), (False, False, False))
            self.assert_same((web.is_split([]), web.is_split(()), web.is_split([[]])), (True, True, False))
            self.assertTrue(web == Web([]))

    def test_a_box_and_a_place_of_one_name(self):
        web = Web([("a", "b", "a"), ("b", "a", "b")])
        self.assert_same((web.most(), web.parts()), (1, [["a", "b"]]))
        self.assert_same(web.is_circuit(["a", "b"]), True)
        web = Web([("a", "b", "c"), ("b", "c", "b"), ("c", "d", "e"), ("d", "e", "d")])
        self.assert_same((web.most(), web.parts()), (2, [["a", "b"], ["c", "d"]]))

    def test_what_is_equal(self):
        self.assert_same(Web(SHOWN) == Web(SHOWN[:2]), False)
        self.assert_same(Web(SHOWN[:2]) == Web([("x", "a", "c"), ("y", "c", "a")]), False)
        self.assert_same(Web(SHOWN[:2]) == Web([("x", "a", "b"), ("z", "b", "a")]), False)
        for other in [SHOWN, tuple(SHOWN), None, 4, Web(SHOWN).arrows]:
            self.assert_same(Web(SHOWN) == other, False)

    def test_twelve_and_thirteen_arrows(self):
        self.assert_same(len(Web(ring(12))), 12)
        self.assert_error(BadCount, {"what": "arrows", "many": 13}, Web, ring(13))
        self.assert_error(BadCount, {"what": "arrows", "many": 14}, Web, [("", "", "")] * 14)
        self.assert_same(Web.MOST_SEARCHED, 6)
        self.assert_same(Web([]).MOST_SEARCHED, 6)

    def test_what_was_passed_may_be_changed(self):
        arrows = list(SHOWN)
        web = Web(arrows)
        arrows.clear()
        for answer in [web.table(), web.circuits(), web.parts(), web.closed_trails(), list(web)]:
            for part in answer:
                if isinstance(part, list):
                    part.clear()
            answer.clear()
        self.assertTrue(web == Web(SHOWN))
        self.assert_same((web.most(), web.parts()), (2, [["w", "x", "y", "z"]]))
        with self.assertRaises(AttributeError):
            web.arrows = ()


class Wrong(Case):
    """The errors of Web in their order."""

    def test_names(self):
        for name in BAD_NAMES:
            self.assert_error(BadName, {"name": name}, Web, [(name, "a", "b"), ("y", "b", "a")])
            self.assert_error(BadName, {"name": name}, Web, [("x", name, "b"), ("y", "b", name)])
            self.assert_error(BadName, {"name": name}, Web, [("x", "a", name), ("y", name, "a")])

    def test_the_box_goes_before_the_places(self):
        self.assert_error(BadName, {"name": "X"}, Web, [("X", "A", "B")])
        self.assert_error(BadName, {"name": "A"}, Web, [("x", "A", "B")])
        self.assert_error(BadName, {"name": "B"}, Web, [("x", "a", "B")])

    def test_names_go_before_boxes_that_occur_twice(self):
        self.assert_error(BadName, {"name": "B"}, Web, [("x", "a", "b"), ("x", "b", "B")])
        self.assert_error(Twice, {"name": "x"}, Web, [("x", "a", "b"), ("x", "b", "a")])
        self.assert_error(Twice, {"name": "x"}, Web, [("x", "a", "b"), ("y", "b", "a"), ("x", "c", "c")])

    def test_idle(self):
        self.assert_error(Idle, {"name": "a"}, Web, [("x", "a", "a")])
        self.assert_error(Idle, {"name": "b"}, Web, [("x", "a", "c"), ("y", "b", "b")])

    def test_each_arrow_is_looked_at_before_the_next_one(self):
        self.assert_error(Idle, {"name": "a"}, Web, [("x", "a", "a"), ("X", "b", "a")])
        self.assert_error(Idle, {"name": "a"}, Web, [("x", "a", "a"), ("x", "a", "b")])
        self.assert_error(Twice, {"name": "x"}, Web, [("x", "a", "b"), ("x", "b", "a"), ("y", "a", "a")])
        self.assert_error(BadName, {"name": "X"}, Web, [("X", "a", "b"), ("y", "a", "a")])

    def test_unbalanced_goes_last_with_the_least_place(self):
        self.assert_error(Unbalanced, {"name": "a"}, Web, [("x", "b", "a")])
        self.assert_error(Unbalanced, {"name": "b"}, Web, SHOWN + [("v", "d", "b"), ("u", "c", "d")])
        self.assert_error(Unbalanced, {"name": "a"}, Web, [("x", "a", "b"), ("y", "a", "b")])
        self.assert_error(Idle, {"name": "z"}, Web, [("x", "a", "b"), ("y", "z", "z")])
        arrows = [("x", "a", "c"), ("y", "c", "a"), ("z", "a", "b"), ("w", "d", "a")]
        self.assert_error(Unbalanced, {"name": "b"}, Web, arrows)


class Tables(Case):
    """[37]: most, circuits and table"""

    def test_of_the_shown_web(self):
        web = Web(SHOWN)
        # The arrows are w, x, y, z: the circuits are x with y (6) and w with z (9).
        wanted = [0, 0, 0, 0, 0, 0, 1, 1, 0, 1, 0, 1, 0, 1, 1, 2]
        self.assert_answer(wanted, web.table)
        self.assert_answer(2, web.most)
        self.assertTrue(web.is_split(web.circuits()))
        self.assert_same(len(web.circuits()), 2)

    def test_six_arrows(self):
        for arrows, most in [(ring(6), 1), (pairs(6), 3), (between_two(6), 3)]:
            web = Web(arrows)
            self.assert_answer(most, web.most)
            self.assert_answer(slow_table(web), web.table)
            self.assert_same(len(web.table()), 64)
            self.assertTrue(web.is_split(web.circuits()))
            self.assert_same(len(web.circuits()), most)

    def test_more_than_six_arrows(self):
        for many, arrows in [(7, SEVEN), (7, ring(7)), (8, pairs(8)), (12, ring(12)), (12, between_two(12))]:
            web = Web(arrows)
            for call in (web.most, web.circuits, web.table):
                self.assert_error(TooMany, {"many": many, "limit": 6}, call)

    def test_equal_webs_give_equal_answers(self):
        wanted = Web(SHOWN).circuits()
        for arrows in itertools.permutations(SHOWN):
            self.assert_same(Web(arrows).circuits(), wanted)

    def test_against_trying_all(self):
        for web in random_webs(40, 6):
            table = slow_table(web)
            self.assert_same(web.table(), table)
            self.assert_same(web.most(), table[-1])
            self.assert_same(len(web.circuits()), table[-1])
            self.assertTrue(web.is_split(web.circuits()))
            self.assertTrue(web.is_bound(table, table[-1]))


class Trails(Case):
    """[36]: is_circuit and is_trail"""

    def assert_judged(self, circuit, trail, web, boxes):
        for given in (list(boxes), tuple(boxes)):
            self.assert_answer(circuit, web.is_circuit, given)
            self.assert_answer(trail, web.is_trail, given)

    def test_from_any_of_its_boxes_on(self):
        for at in range(2):
            self.assert_judged(True, True, Web(SHOWN), ["x", "y"][at:] + ["x", "y"][:at])
            self.assert_judged(True, True, Web(SHOWN), ["z", "w"][at:] + ["z", "w"][:at])
        whole = ["x", "y", "z", "w"]
        for at in range(4):
            self.assert_judged(False, True, Web(SHOWN), whole[at:] + whole[:at])
        for at in range(12):
            boxes = [arrow[0] for arrow in ring(12)]
            self.assert_judged(True, True, Web(ring(12)), boxes[at:] + boxes[:at])

    def test_what_is_none(self):
        for boxes in [
            [], ["x"], ["x", "z"], ["x", "x"], ["x", "y", "x", "y"], ["y", "x", "w", "z"], ["x", "w"], ["x", "v"],
            ["a", "b"], ["", "x"], ["x", "y", "v"], ["x", "z", "w", "y"], ["x", "y", "w", "z"],
        ]:
            self.assert_judged(False, False, Web(SHOWN), boxes)
        boxes = [arrow[0] for arrow in ring(12)]
        self.assert_judged(False, False, Web(ring(12)), boxes[::-1])
        self.assert_judged(False, False, Web(ring(12)), boxes[:-1])

    def test_wrong_parts(self):
        for boxes in (["x", "y"], ("z", "w", "x", "y")):
            for changed in wrong_things(boxes):
                self.assert_same(Web(SHOWN).is_circuit(changed), False if len(boxes) == 2 else changed in (
                    ("x", "y"), ("z", "w"),
                ))
        for part in WEIRD:
            self.assert_judged(False, False, Web(SHOWN), [part])
            self.assert_judged(False, False, Web(SHOWN), ["x", "y", part])

    def test_against_the_words_of_the_point(self):
        for web in random_webs(12, 6):
            arrows = {arrow[0]: arrow for arrow in web}
            for many in range(1, 5):
                for boxes in itertools.permutations(arrows, many):
                    order = [arrows[box] for box in boxes]
                    follows = all(first[2] == second[1] for first, second in zip(order, order[1:] + order[:1]))
                    self.assert_same(web.is_trail(boxes), follows)
                    self.assert_same(web.is_circuit(boxes), is_round(order))


class Splits(Case):
    """[36]: is_split"""

    def test_right_ones(self):
        for circuits in [
            [["x", "y"], ["z", "w"]], [["w", "z"], ["y", "x"]], (("x", "y"), ["z", "w"]), [("x", "y"), ("w", "z")],
        ]:
            self.assert_answer(True, Web(SHOWN).is_split, circuits)

    def test_any_number_of_circuits(self):
        there = [("k", "a", "b"), ("l", "b", "c"), ("m", "c", "a")]
        web = Web(there + [("n", "b", "a"), ("o", "a", "c"), ("p", "c", "b")])
        self.assert_answer(True, web.is_split, [["k", "l", "m"], ["n", "o", "p"]])
        self.assert_answer(True, web.is_split, [["k", "n"], ["l", "p"], ["m", "o"]])
        self.assert_same(web.most(), 3)
        self.assert_same(len(web.circuits()), 3)
        self.assertTrue(web.is_split(web.circuits()))

    def test_a_web_of_twelve_arrows(self):
        boxes = [arrow[0] for arrow in ring(12)]
        self.assert_answer(True, Web(ring(12)).is_split, [boxes[5:] + boxes[:5]])
        self.assert_answer(False, Web(ring(12)).is_split, [boxes[:6], boxes[6:]])

    def test_wrong_ones(self):
        for circuits in [
            [], (), [[]], [["x", "y"]], [["x", "y"], ["z", "w"], []], [["x", "y", "z", "w"]],
            [["x", "y"], ["z", "w"], ["x", "y"]], [["x", "y"], ["y", "x"]], [["x", "w"], ["z", "y"]], ["xy", "zw"],
            [["x"], ["y"], ["z"], ["w"]], [["x", "y"], ["z", "v"]], ["x", "y", "z", "w"],
        ]:
            self.assert_answer(False, Web(SHOWN).is_split, circuits)
        for circuits in ([["x", "y"], ["z", "w"]], (("x", "y"), ("z", "w"))):
            for changed in wrong_things(circuits):
                # A list in the place of a tuple is right here, where sequences are described.
                tuples = [tuple(part) if isinstance(part, list) else part for part in changed]
                self.assert_same(Web(SHOWN).is_split(changed), tuples == [("x", "y"), ("z", "w")])
        for part in WEIRD:
            self.assert_answer(False, Web([]).is_split, [part])


class Bounds(Case):
    """[38]: is_bound"""

    def test_the_table_and_greater_ones(self):
        for web in random_webs(10, 6):
            table = web.table()
            self.assert_answer(True, web.is_bound, table, web.most())
            self.assert_answer(True, web.is_bound, tuple(table), web.most())
            self.assert_answer(False, web.is_bound, table, web.most() + 1)
            self.assert_answer(False, web.is_bound, table, web.most() - 1)
            greater = [entry + 1 for entry in table]
            self.assert_answer(True, web.is_bound, greater, web.most() + 1)
            self.assert_answer(False, web.is_bound, greater, web.most())

    def test_entries_of_any_size(self):
        table = [10**3998 + entry for entry in Web(SHOWN).table()]
        self.assert_answer(True, Web(SHOWN).is_bound, table, 10**3998 + 2)

    def test_each_entry_counts(self):
        web = Web(SHOWN)
        for at in range(16):
            table = web.table()
            table[at] = table[at] - 1
            self.assert_answer(False, web.is_bound, table, table[-1])
            table[at] = table[at] + 2
            # An entry may be greater where no circuit can be added to its set.
            right = at & 6 != 0 and at & 9 != 0
            self.assert_answer(right, web.is_bound, table, table[-1])

    def test_against_the_words_of_the_point(self):
        chance = random.Random(3)
        for web in random_webs(12, 4):
            arrows = web.arrows
            circuits = [sum(2 ** arrows.index(arrow) for arrow in circuit) for circuit in slow_circuits(arrows)]
            for _ in range(60):
                table = [max(0, entry + chance.choice([0, 0, 0, 0, 1, 1, -1])) for entry in web.table()]
                right = all(
                    table[index] >= 1 + table[index - circuit]
                    for index in range(len(table)) for circuit in circuits if index & circuit == circuit
                )
                self.assert_same(web.is_bound(table, table[-1]), right)

    def test_the_empty_web(self):
        for number in (0, 1, 10**3999):
            self.assert_answer(True, Web([]).is_bound, [number], number)
            self.assert_answer(False, Web([]).is_bound, [number], number + 1)
        for table in ([], (), [-1], [0, 0], [None], ["0"], [[0]]):
            self.assert_answer(False, Web([]).is_bound, table, 0)
        self.assert_answer(False, Web([]).is_bound, [-1], -1)

    def test_wrong_parts(self):
        web = Web(SHOWN)
        for part in WEIRD:
            if part not in (0, 10**3999):
                self.assert_answer(False, web.is_bound, [part], 0)
                for at in (0, 7, 15):
                    table = web.table()
                    table[at] = part
                    self.assert_answer(False, web.is_bound, table, 2)
        table = web.table()
        for wrong in [[], table[:-1], table + [2], table + table, table[:8], [-1] * 16]:
            self.assert_answer(False, web.is_bound, wrong, 2)

    def test_more_than_six_arrows(self):
        for many, arrows in [(7, SEVEN), (12, between_two(12))]:
            for table in ([], [None], [0] * 128, ((),)):
                self.assert_error(TooMany, {"many": many, "limit": 6}, Web(arrows).is_bound, table, 0)


class Parts(Case):
    """[39]"""

    def test_parts(self):
        self.assert_answer([["w", "x", "y", "z"]], Web(SHOWN).parts)
        self.assert_answer([["m", "n", "o", "p", "q", "r", "s"]], Web(SEVEN).parts)
        self.assert_answer([[arrow[0] for arrow in ring(12)]], Web(ring(12)).parts)
        wanted = [[f"b{at:02}", f"cb{at:02}"] for at in range(6)]
        self.assert_answer(wanted, Web(pairs(12)).parts)

    def test_parts_are_ascending_by_their_first_box(self):
        web = Web([("z", "a", "b"), ("b", "b", "a"), ("c", "d", "e"), ("a", "e", "d")])
        self.assert_answer([["a", "c"], ["b", "z"]], web.parts)

    def test_connected_through_further_arrows(self):
        arrows = [("a", "p", "q"), ("f", "q", "p"), ("b", "q", "r"), ("e", "r", "q"), ("c", "r", "s"), ("d", "s", "r")]
        self.assert_answer([["a", "b", "c", "d", "e", "f"]], Web(arrows).parts)

    def test_closed_trails(self):
        for arrows in [SHOWN, SEVEN, ring(12), pairs(12), between_two(12), []]:
            self.check_trails(Web(arrows))
        for web in random_webs(60, 12):
            self.check_trails(web)

    def check_trails(self, web):
        trails = web.closed_trails()
        self.assert_answer(trails, web.closed_trails)
        self.assert_same([sorted(trail) for trail in trails], web.parts())
        for trail in trails:
            self.assert_same(web.is_trail(trail), True)
        places = [{place for box, *ends in web if box in part for place in ends} for part in web.parts()]
        self.assert_same(sum(len(found) for found in places), len(set().union(*places)))


if __name__ == "__main__":
    unittest.main()
