"""nestweigh/bags.py: points [2], [3], [4], [9] and [10]."""

import itertools
import math
import unittest

from nestweigh.bags import Bag, arrangements
from nestweigh.errors import BadNumber, Short
from tests.support import Case

GREAT = 10**3999


class Making(Case):
    """[9]"""

    def test_the_numbers_ascend_however_they_are_passed(self):
        for numbers in itertools.permutations([3, 1, 3, -2]):
            self.assert_same(Bag(numbers).numbers, (-2, 1, 3, 3))
            self.assert_same(Bag(list(numbers)).numbers, (-2, 1, 3, 3))
            self.assertTrue(Bag(numbers) == Bag([3, 3, 1, -2]))

    def test_the_empty_bag(self):
        for bag in [Bag(), Bag([]), Bag(())]:
            self.assert_same(bag.numbers, ())
            self.assert_same(bag.total, 0)
            self.assert_same(len(bag), 0)
            self.assert_same(list(bag), [])
            self.assert_same(bag.table(), {})
            self.assert_same(bag.times(0), 0)
            self.assert_same(0 in bag, False)
            self.assertTrue(bag == Bag())

    def test_numbers_of_any_size(self):
        bag = Bag([GREAT, 0, -GREAT, GREAT])
        self.assert_same(bag.numbers, (-GREAT, 0, GREAT, GREAT))
        self.assert_same(bag.total, GREAT)
        self.assert_same(bag.times(GREAT), 2)
        self.assert_same(-GREAT in bag, True)

    def test_a_thousand_items(self):
        numbers = [number for number in range(-250, 250) for _ in range(2)]
        bag = Bag(list(reversed(numbers)))
        self.assert_same(bag.numbers, tuple(numbers))
        self.assert_same(len(bag), 1000)
        self.assert_same(bag.total, -500)

    def test_the_first_true_or_false(self):
        self.assert_error(BadNumber, {"number": True}, Bag, [True])
        self.assert_error(BadNumber, {"number": False}, Bag, (0, 1, False, True))
        self.assert_error(BadNumber, {"number": True}, Bag, [1, True, False])
        self.assert_error(BadNumber, {"number": True}, Bag, [5] * 999 + [True])

    def test_the_sequence_may_be_changed_afterwards(self):
        numbers = [2, 1]
        bag = Bag(numbers)
        numbers.append(9)
        self.assert_same(bag.numbers, (1, 2))
        self.assert_same(numbers, [2, 1, 9])


class Asking(Case):
    def test_items_one_after_the_other(self):
        bag = Bag([5, 2, 5, 0])
        self.assert_same(list(bag), [0, 2, 5, 5])
        self.assert_same([number for number in bag for _ in bag], [0] * 4 + [2] * 4 + [5] * 8)

    def test_length_counts_each_item(self):
        self.assert_same(len(Bag([7, 7, 7])), 3)
        self.assert_same(len(Bag([7])), 1)

    def test_whether_a_number_occurs(self):
        bag = Bag([5, 2, -5])
        for number in range(-7, 8):
            self.assert_same(number in bag, number in (5, 2, -5))

    def test_equal_bags(self):
        self.assert_same(Bag([1, 2, 2]) == Bag((2, 1, 2)), True)
        self.assert_same(Bag([1, 2, 2]) == Bag([1, 1, 2]), False)
        self.assert_same(Bag([1, 2]) == Bag([1, 2, 2]), False)
        self.assert_same(Bag([1]) == Bag([-1]), False)
        self.assert_same(Bag([1]) != Bag([1]), False)
        self.assert_same(Bag([1]) != Bag([2]), True)

    def test_no_bag_equals_something_else(self):
        for other in [(1, 2), [1, 2], {1: 1, 2: 1}, 3, None, "1", True]:
            self.assert_same(Bag([1, 2]) == other, False)
            self.assert_same(Bag([1, 2]) != other, True)
        self.assert_same(Bag() == (), False)

    def test_total(self):
        self.assert_same(Bag([3, 3, -1]).total, 5)
        self.assert_same(Bag([-3]).total, -3)

    def test_how_often(self):
        bag = Bag([4, 4, 1])
        self.assert_answer(2, bag.times, 4)
        self.assert_answer(1, bag.times, 1)
        self.assert_answer(0, bag.times, 2)

    def test_the_table_ascends_and_is_new_each_time(self):
        self.assert_answer({-1: 1, 2: 3, 7: 1}, Bag([7, 2, 2, -1, 2]).table)
        bag = Bag([1, 2])
        bag.table()[9] = 9
        self.assert_same((9 in bag, bag.numbers, bag.times(9)), (False, (1, 2), 0))

    def test_within(self):
        bag = Bag([1, 1, 2])
        for other in [[1, 1, 2], [2, 1, 1, 1], [0, 1, 1, 2, 3]]:
            self.assert_answer(True, bag.within, Bag(other))
        for other in [[], [1, 2], [1, 1], [1, 2, 2], [1, 2, 3, 4, 5]]:
            self.assert_answer(False, bag.within, Bag(other))
        self.assert_answer(True, Bag().within, Bag())
        self.assert_answer(True, Bag().within, Bag([1]))


class Reckoning(Case):
    def test_sums(self):
        first, second = Bag([1, 3]), Bag([3, -2])
        self.assert_same((first + second).numbers, (-2, 1, 3, 3))
        self.assertTrue(first + second == second + first)
        self.assert_same(((first + Bag()).numbers, (Bag() + Bag()).numbers), ((1, 3), ()))
        self.assert_same((first.numbers, second.numbers), ((1, 3), (-2, 3)))

    def test_a_sum_may_have_more_than_a_thousand_items(self):
        bag = Bag([1] * 1000)
        self.assert_same(len(bag + bag + Bag([2])), 2001)
        self.assert_same((bag + bag).times(1), 2000)
        self.assert_same(((bag + bag) - bag).numbers, (1,) * 1000)

    def test_differences(self):
        first, second = Bag([1, 3, 3]), Bag([3])
        self.assert_same((first - second).numbers, (1, 3))
        self.assert_same((first - first).numbers, ())
        self.assert_same((first - Bag()).numbers, (1, 3, 3))
        self.assert_same((Bag() - Bag()).numbers, ())
        self.assert_same((first.numbers, second.numbers), ((1, 3, 3), (3,)))

    def test_the_least_number_that_is_short(self):
        def less(first, second):
            return first - second

        self.assert_error(Short, {"number": 3}, less, Bag([1, 3]), Bag([3, 3]))
        self.assert_error(Short, {"number": -4}, less, Bag([1, 2]), Bag([9, 5, -4, 1]))
        self.assert_error(Short, {"number": 2}, less, Bag([1, 1, 2, 9]), Bag([9, 9, 2, 2, 1]))
        self.assert_error(Short, {"number": 0}, less, Bag(), Bag([0]))

    def test_sums_and_differences_are_bags(self):
        self.assertIs(type(Bag() + Bag()), Bag)
        self.assertIs(type(Bag() - Bag()), Bag)


class Counted(Case):
    def test_each_key_as_often_as_its_value_says(self):
        self.assert_answer(Bag([1, 3, 3]), Bag.counted, {3: 2, 1: 1})
        self.assert_answer(Bag(), Bag.counted, {})
        self.assert_same(Bag.counted({3: 2, -1: 1, 2: 0}).numbers, (-1, 3, 3))
        self.assert_same(Bag.counted({GREAT: 1}).numbers, (GREAT,))

    def test_zero_leaves_the_key_out(self):
        bag = Bag.counted({5: 0, 6: 1})
        self.assert_same((5 in bag, bag.table(), len(bag)), (False, {6: 1}, 1))

    def test_at_most_a_hundred_of_each_and_more_in_all(self):
        bag = Bag.counted({number: 100 for number in range(30)})
        self.assert_same(len(bag), 3000)
        self.assert_same(bag.times(7), 100)

    def test_the_first_value_that_is_no_such_integer(self):
        for value in [-1, 101, GREAT, -GREAT, True, False, None, "1", ""]:
            self.assert_error(BadNumber, {"number": value}, Bag.counted, {1: 100, 0: value})
        self.assert_error(BadNumber, {"number": 101}, Bag.counted, {9: 101, 1: -1})
        self.assert_error(BadNumber, {"number": -1}, Bag.counted, {1: 0, 9: -1, 2: 101})

    def test_a_table_gives_the_bag_again(self):
        bag = Bag([4, 4, -7, 0])
        self.assertTrue(Bag.counted(bag.table()) == bag)


class Arrangements(Case):
    """[10]"""

    def test_small_counts(self):
        self.assert_answer(1, arrangements, [])
        self.assert_answer(1, arrangements, ())
        self.assert_answer(1, arrangements, [0])
        self.assert_answer(1, arrangements, [60])
        self.assert_answer(1, arrangements, [0, 3, 0])
        self.assert_answer(12, arrangements, (2, 1, 1))
        self.assert_answer(479001600, arrangements, [1] * 12)

    def test_against_counting_the_orders_one_by_one(self):
        for counts in itertools.product(range(4), range(3), range(3)):
            items = [at for at, many in enumerate(counts) for _ in range(many)]
            self.assert_same(arrangements(counts), len(set(itertools.permutations(items))))

    def test_the_order_of_the_counts_does_not_matter(self):
        self.assert_same(arrangements([5, 0, 2, 9]), arrangements([9, 5, 2, 0]))

    def test_sixty_counts_of_sixty(self):
        wanted = math.factorial(3600) // math.factorial(60) ** 60
        self.assertGreater(wanted, 10**4300)
        self.assertTrue(arrangements([60] * 60) == wanted)
        self.assertTrue(arrangements([1] * 60) == math.factorial(60))

    def test_the_first_item_that_is_no_such_integer(self):
        for value in [-1, 61, GREAT, True, False, None, "2", ""]:
            self.assert_error(BadNumber, {"number": value}, arrangements, [60, 0, value, 99])
            self.assert_error(BadNumber, {"number": value}, arrangements, (value,))
        self.assert_error(BadNumber, {"number": 61}, arrangements, [1, 61, -1, True])


class Examples(Case):
    """The two examples under nestweigh/bags.py."""

    def test_the_difference(self):
        self.assert_same((Bag([3, 1, 3]) - Bag([3])).numbers, (1, 3))

    def test_the_arrangements(self):
        self.assert_same(arrangements([2, 1, 1]), 12)


if __name__ == "__main__":
    unittest.main()
