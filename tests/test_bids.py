"""Point 6: the bid prices."""

import unittest

from tests.helper import (BIDS, Sequence, asked, cap, demand, fare, house_calls, last, leg, meshed_house,
                          mixed_house, slow_bids)


def bids(capacities, journeys):
    return last(house_calls(capacities, journeys) + [BIDS])


class BidsTest(unittest.TestCase):
    def test_no_legs_and_no_journeys(self):
        self.assertEqual(asked([BIDS]), [[0]])

    def test_legs_alone(self):
        self.assertEqual(asked([leg(5), leg(0), leg(1000), BIDS])[3], [0, 0, 1, 0, 1, 0, 1])

    def test_ordinary_houses(self):
        self.assertEqual(bids([10, 5], [(100, 20, [1]), (150, 3, [1, 2])]), [0, 100, 1, 0, 1])
        self.assertEqual(bids([10, 4], [(100, 20, [1]), (150, 9, [1, 2]), (70, 2, [2])]), [0, 100, 1, 50, 1])
        self.assertEqual(bids([10, 4], [(100, 20, [1]), (150, 3, [1, 2]), (70, 9, [2])]), [0, 100, 1, 70, 1])

    def test_halves_thirds_and_quarters(self):
        ring = [(10, 9, [1, 2]), (11, 9, [2, 3]), (12, 9, [3, 1])]
        self.assertEqual(bids([1, 1, 1], ring), [0, 11, 2, 9, 2, 13, 2])
        thirds = [(1, 5, [1, 2, 3]), (1, 5, [1, 2, 4]), (1, 5, [1, 3, 4]), (1, 5, [2, 3, 4])]
        self.assertEqual(bids([1] * 4, thirds), [0] + [1, 3] * 4)
        quarters = [(2, 5, [k for k in range(1, 6) if k != out]) for out in range(1, 6)]
        self.assertEqual(bids([1] * 5, quarters), [0] + [1, 2] * 5)
        self.assertEqual(bids([1] * 5, [(1, 5, one[2]) for one in quarters]), [0] + [1, 4] * 5)

    def test_nought_at_each_place(self):
        self.assertEqual(bids([0], [(10, 5, [1])]), [0, 10, 1])
        self.assertEqual(bids([0], [(10, 0, [1])]), [0, 0, 1])
        self.assertEqual(bids([5], [(10, 0, [1])]), [0, 0, 1])
        self.assertEqual(bids([5], [(0, 9, [1])]), [0, 0, 1])

    def test_the_upper_ends(self):
        journeys = [(1000000, 1000, [k]) for k in range(1, 6)]
        self.assertEqual(bids([999] * 5, journeys), [0] + [1000000, 1] * 5)
        self.assertEqual(bids([1000] * 5, journeys), [0] + [0, 1] * 5)
        whole_way = [(1000000, 1000, [5, 4, 3, 2, 1])] * 5
        self.assertEqual(bids([1000] * 5, whole_way), [0] + [0, 1] * 4 + [1000000, 1])

    def test_after_changes(self):
        calls = house_calls([1, 1, 1], [(10, 9, [1, 2]), (10, 9, [2, 3]), (10, 9, [3, 1])])
        told = asked(calls + [BIDS, cap(1, 2), BIDS, demand(1, 0), BIDS, fare(3, 11), BIDS, BIDS])
        self.assertEqual(told[6:], [[0] + [5, 1] * 3, [0], [0, 0, 1, 10, 1, 10, 1], [0],
                                    [0, 0, 1, 0, 1, 10, 1], [0], [0, 0, 1, 0, 1, 11, 1],
                                    [0, 0, 1, 0, 1, 11, 1]])


class BidsOrderTest(unittest.TestCase):
    def test_least_for_the_first_leg_then_for_the_second(self):
        self.assertEqual(bids([5, 5], [(10, 100, [1, 2])]), [0, 0, 1, 10, 1])
        self.assertEqual(bids([5, 5], [(10, 100, [2, 1])]), [0, 0, 1, 10, 1])
        self.assertEqual(bids([5, 5, 5], [(10, 100, [3, 1, 2])]), [0, 0, 1, 0, 1, 10, 1])

    def test_a_capacity_that_is_just_the_demand(self):
        self.assertEqual(bids([5], [(10, 5, [1])]), [0, 0, 1])
        self.assertEqual(bids([5], [(10, 5, [1]), (4, 9, [1])]), [0, 4, 1])

    def test_a_later_leg_decides(self):
        self.assertEqual(bids([1, 5, 5], [(7, 9, [1]), (10, 9, [2, 3])]), [0, 7, 1, 0, 1, 10, 1])
        self.assertEqual(bids([1, 1, 5, 5], [(7, 9, [1]), (8, 9, [2]), (10, 9, [4, 3])]),
                         [0, 7, 1, 8, 1, 0, 1, 10, 1])

    def test_the_first_leg_is_cheap_though_others_get_dear(self):
        self.assertEqual(bids([4, 4, 4], [(10, 9, [1, 2]), (10, 9, [1, 3])]), [0, 10, 1, 0, 1, 0, 1])
        self.assertEqual(bids([8, 4, 4], [(10, 9, [1, 2]), (10, 9, [1, 3])]), [0, 0, 1, 10, 1, 10, 1])
        self.assertEqual(bids([4, 4, 8], [(10, 9, [1, 3]), (10, 9, [2, 3])]), [0, 0, 1, 0, 1, 10, 1])

    def test_no_capacity_at_all(self):
        self.assertEqual(bids([0, 0, 0], [(10, 9, [1, 2]), (7, 9, [2, 3]), (4, 0, [1])]), [0, 0, 1, 10, 1, 0, 1])
        self.assertEqual(bids([0, 0, 0], [(10, 9, [1, 2]), (17, 9, [2, 3]), (4, 1, [1])]), [0, 4, 1, 6, 1, 11, 1])


class BidsByCornersTest(unittest.TestCase):
    def compare(self, made, seed, count, most, capacities, fares, demands):
        sequence = Sequence(seed)
        for k in range(count):
            seats, journeys = made(sequence, most, capacities, fares, demands)
            self.assertEqual(bids(seats, journeys), slow_bids(seats, journeys), (seats, journeys))

    def test_many_ties(self):
        self.compare(mixed_house, 5, 150, 4, (0, 1, 2, 3), (0, 1, 2, 3), (0, 1, 2, 3))
        self.compare(mixed_house, 6, 150, 4, (1, 1, 2), (10, 10, 20), (1, 2, 1000))

    def test_wide_ranges(self):
        self.compare(mixed_house, 7, 100, 4, range(1001), range(1000001), range(1001))

    def test_many_fractions(self):
        self.compare(meshed_house, 8, 100, 4, (1, 3, 5), (10, 11, 12), (9, 1000))
        self.compare(meshed_house, 11, 100, 4, (1, 2, 3), (10, 10, 20), (1, 9))

    def test_full_houses(self):
        self.compare(meshed_house, 12, 30, 5, (1, 1, 2, 3), (10, 11), (1, 1000))
