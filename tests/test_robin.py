"""Points 2, 23 and 24: round robin on one processor."""

import unittest
from itertools import permutations, product
from random import Random

from blindslots.errors import NoLengths, NoOrder
from blindslots.robin import count_robin, least_lengths, robin_order, robin_units
from blindslots.rules import ROUND_ROBIN
from blindslots.runs import finish_units
from tests.checks import NO_COUNTS, NOT_A_TUPLE, ODD_VALUES, Checks, with_item
from tests.reference import all_lengths

FAR = 10 ** 30
NAMES = "abcdefghijkl"


def rounds_of(lengths):
    """The finish units, by turns that are taken one by one."""
    left = list(lengths)
    units = [0] * len(lengths)
    unit = 0
    while any(left):
        for k in range(len(left)):
            if left[k]:
                left[k] -= 1
                unit += 1
                units[k] = unit
    return tuple(units)


def order_of(lengths):
    """The order of the finishes, by these turns."""
    units = rounds_of(lengths)
    return tuple(sorted(range(len(units)), key=lambda k: units[k]))


class UnitsTest(Checks):

    def check_robin(self, lengths):
        self.check_same(robin_units(lengths), rounds_of(lengths))
        self.check_same(robin_order(lengths), order_of(lengths))

    def test_by_hand(self):
        self.check_same(robin_units(()), ())
        self.check_same(robin_order(()), ())
        self.check_same(robin_units((5,)), (5,))
        self.check_same(robin_order((5,)), (0,))
        self.check_same(robin_units((2, 2)), (3, 4))
        self.check_same(robin_units((3, 1)), (4, 2))
        self.check_same(robin_order((3, 1)), (1, 0))
        self.check_same(robin_units((2, 4, 1, 2)), (5, 9, 3, 7))
        self.check_same(robin_order((2, 4, 1, 2)), (2, 0, 3, 1))

    def test_equal_lengths_finish_in_the_order_of_the_indexes(self):
        for many in range(12):
            self.check_same(robin_order((7,) * many), tuple(range(many)))
            self.check_same(robin_units((1,) * many), tuple(range(1, many + 1)))
        self.check_same(robin_order((3, 2, 3, 2, 3)), (1, 3, 0, 2, 4))

    def test_arguments_by_name(self):
        self.check_same(robin_units(lengths=(3, 1)), (4, 2))
        self.check_same(robin_order(lengths=(3, 1)), (1, 0))
        self.check_same(least_lengths(order=(1, 0, 2)), (2, 1, 2))
        self.check_same(count_robin(order=(1, 0, 2), total=5), 1)

    def test_all_small_lengths(self):
        for many, most in ((1, 6), (2, 6), (3, 5), (4, 4), (5, 3)):
            for lengths in all_lengths(many, most):
                self.check_robin(lengths)

    def test_forty_lengths(self):
        random = Random(60)
        for _ in range(100):
            self.check_robin(tuple(random.randint(1, random.choice((2, 20))) for _ in range(random.randint(0, 40))))

    def test_the_runs_of_round_robin(self):
        random = Random(61)
        for _ in range(200):
            lengths = tuple(random.randint(1, 20) for _ in range(random.randint(0, 12)))
            jobs = tuple((NAMES[k], ("at", 0), 0) for k in range(len(lengths)))
            units = finish_units(jobs, lengths, rule=ROUND_ROBIN)
            self.check_same(robin_units(lengths), units)
            self.check_same(robin_order(lengths), tuple(sorted(range(len(units)), key=lambda k: units[k])))

    def test_large_lengths(self):
        self.check_same(robin_units((FAR, 1, FAR)), (2 * FAR, 2, 2 * FAR + 1))
        self.check_same(robin_order((FAR, FAR - 1, FAR)), (1, 0, 2))
        self.check_same(robin_units((FAR,) * 40), tuple(40 * FAR - 39 + k for k in range(40)))
        # All lengths are longer by as much: each round more takes a unit of each job.
        random = Random(62)
        for _ in range(100):
            lengths = tuple(random.randint(1, 9) for _ in range(random.randint(1, 40)))
            longer = tuple(length + FAR - 9 for length in lengths)
            more = (FAR - 9) * len(lengths)
            self.check_same(robin_units(longer), tuple(unit + more for unit in robin_units(lengths)))
            self.check_same(robin_order(longer), robin_order(lengths))

    def test_wrong_lengths(self):
        for function in (robin_units, robin_order):
            for odd in NOT_A_TUPLE:
                self.check_fault(NoLengths, "place", 0, function, odd)
            for wrong, many in product(NO_COUNTS, (1, 2, 5, 40)):
                for place in range(many):
                    self.check_fault(NoLengths, "place", place, function, with_item((3,) * many, place, wrong))
            self.check_fault(NoLengths, "place", 1, function, (1, 0, True, None))
            for odd in ODD_VALUES:
                if odd is True or odd not in (1, 10, FAR):
                    self.check_fault(NoLengths, "place", 1, function, (1, odd))


class OrderTest(Checks):

    def test_example(self):
        self.check_same(least_lengths((1, 0, 2)), (2, 1, 2))

    def test_least_lengths_by_hand(self):
        self.check_same(least_lengths(()), ())
        self.check_same(least_lengths((0,)), (1,))
        self.check_same(least_lengths((0, 1, 2)), (1, 1, 1))
        self.check_same(least_lengths((2, 1, 0)), (3, 2, 1))
        self.check_same(least_lengths((1, 3, 0, 2)), (2, 1, 2, 1))
        self.check_same(least_lengths((2, 3, 0, 1)), (2, 2, 1, 1))
        self.check_same(least_lengths(tuple(range(40))), (1,) * 40)
        self.check_same(least_lengths(tuple(range(39, -1, -1))), tuple(range(40, 0, -1)))

    def test_least_lengths_have_the_order(self):
        for many in range(7):
            for order in permutations(range(many)):
                self.check_same(robin_order(least_lengths(order)), order)

    def test_least_of_all_lists_with_the_order(self):
        for many in range(5):
            lists = {}
            for lengths in all_lengths(many, 5):
                lists.setdefault(order_of(lengths), []).append(lengths)
            for order in permutations(range(many)):
                least = least_lengths(order)
                self.assertIn(least, lists[order])
                for lengths in lists[order]:
                    self.assertTrue(all(one <= other for one, other in zip(least, lengths)))

    def test_forty_entries(self):
        random = Random(63)
        for _ in range(100):
            order = tuple(random.sample(range(40), 40))
            least = least_lengths(order)
            self.check_same(robin_order(least), order)
            # One less anywhere, and the order is another one.
            for k in range(40):
                if least[k] > 1:
                    self.assertNotEqual(robin_order(with_item(least, k, least[k] - 1)), order)

    def test_count_by_hand(self):
        self.check_same([count_robin((), total) for total in range(4)], [1, 0, 0, 0])
        self.check_same([count_robin((0,), total) for total in range(4)], [0, 1, 1, 1])
        self.check_same([count_robin((0, 1), total) for total in range(7)], [0, 0, 1, 1, 2, 2, 3])
        self.check_same([count_robin((1, 0), total) for total in range(7)], [0, 0, 0, 1, 1, 2, 2])
        self.check_same([count_robin((1, 0, 2), total) for total in range(4, 9)], [0, 1, 1, 2, 3])

    def test_count_against_all_lists(self):
        for many, most in ((1, 9), (2, 9), (3, 9), (4, 7)):
            found = {}
            for lengths in all_lengths(many, most):
                key = order_of(lengths), sum(lengths)
                found[key] = found.get(key, 0) + 1
            for order in permutations(range(many)):
                # A length above the limit is part of a greater sum only.
                for total in range(most + many):
                    self.check_same(count_robin(order, total), found.get((order, total), 0))

    def test_count_over_all_orders(self):
        # Each length list has one order: together they are the ways to cut a row into pieces.
        for total, number in ((3, 0), (4, 1), (7, 20), (12, 165)):
            self.assertEqual(sum(count_robin(order, total) for order in permutations(range(4))), number)

    def test_count_at_the_limits(self):
        self.check_same(count_robin(tuple(range(40)), 40), 1)
        self.check_same(count_robin(tuple(range(40)), 39), 0)
        # The partitions of 30 into any parts, and those of 299 and 300 into one part, up to two, up to three.
        self.check_same(count_robin(tuple(range(40)), 70), 5604)
        self.check_same([count_robin(tuple(range(many)), 300) for many in (1, 2, 3)], [1, 150, 7500])
        self.check_same(count_robin(tuple(range(39, -1, -1)), 300), 0)
        self.check_same(count_robin((1, 0), 300), 149)
        for order in (tuple(range(40)), tuple(range(20, 40)) + tuple(range(20))):
            rest = 300 - sum(least_lengths(order))
            self.check_same(count_robin(order, 300), partitions(rest, 40))

    def test_wrong_order(self):
        for function in (least_lengths, lambda order: count_robin(order, 3), lambda order: count_robin(order, 300)):
            for odd in NOT_A_TUPLE:
                self.check_fault(NoOrder, "place", 0, function, odd)
            for order, place in (
                ((1,), 0), ((-1,), 0), ((0, 0), 1), ((1, 1), 1), ((0, 2), 1), ((2, 0), 0), ((0, 1, 3), 2),
                ((0, -1, 2), 1), ((2, 1, 2), 2), ((2, 0, 0, 0), 2), ((FAR, 0), 0), ((0, 1, 2, 4, 4), 4), ((4, 4, 9), 0),
                ((0, True), 1), ((1, False), 1), ((True, 0), 0), ((False,), 0), ((0, None), 1), (("0",), 0),
                (((0,),), 0), (([0], 1), 0), ((0, (), 9), 1),
            ):
                self.check_fault(NoOrder, "place", place, function, order)
            for odd, place in product(ODD_VALUES, range(3)):
                # 0 and 1 are entries, each of which stands once.
                if isinstance(odd, bool) or odd not in (0, 1):
                    self.check_fault(NoOrder, "place", place, function, with_item((0, 1, 2), place, odd))


def partitions(total, most):
    """How many ways there are to write the total with parts up to this one, counted one part after the other."""
    known = {}

    def count(rest, part):
        if rest == 0:
            return 1
        if part == 0 or rest < 0:
            return 0
        if (rest, part) not in known:
            known[rest, part] = count(rest - part, part) + count(rest, part - 1)
        return known[rest, part]

    return count(total, most)


if __name__ == "__main__":
    unittest.main()
