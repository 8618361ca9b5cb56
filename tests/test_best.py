"""Point 5: the best division."""

import unittest

from tests.helper import (BEST, Sequence, asked, cap, demand, fare, house_calls, journey, last, leg, meshed_house,
                          mixed_house, slow_best)


def best(capacities, journeys):
    return last(house_calls(capacities, journeys) + [BEST])


class BestTest(unittest.TestCase):
    def test_no_legs_and_no_journeys(self):
        self.assertEqual(asked([BEST]), [[0, 0, 1]])

    def test_legs_alone(self):
        self.assertEqual(asked([leg(5), leg(1000), BEST])[2], [0, 0, 1])

    def test_ordinary_houses(self):
        self.assertEqual(best([10, 5], [(100, 20, [1]), (150, 3, [1, 2])]), [0, 1150, 1, 7, 1, 3, 1])
        self.assertEqual(best([10, 5], [(100, 4, [1]), (150, 9, [1, 2]), (70, 9, [2])]),
                         [0, 1150, 1, 4, 1, 5, 1, 0, 1])

    def test_halves(self):
        ring = [(10, 9, [1, 2]), (10, 9, [2, 3]), (10, 9, [3, 1])]
        self.assertEqual(best([1, 1, 1], ring), [0, 15, 1] + [1, 2] * 3)
        self.assertEqual(best([4, 3, 2], [(11, 9, [1, 2]), (10, 9, [2, 3]), (10, 9, [3, 1])]),
                         [0, 95, 2, 5, 2, 1, 2, 3, 2])
        ring = [(k, 1000, [k, k % 5 + 1]) for k in range(1, 6)]
        self.assertEqual(best([1] * 5, [(7, way[1], way[2]) for way in ring]), [0, 35, 2] + [1, 2] * 5)

    def test_thirds_and_quarters(self):
        thirds = [(1, 5, [1, 2, 3]), (1, 5, [1, 2, 4]), (1, 5, [1, 3, 4]), (1, 5, [2, 3, 4])]
        self.assertEqual(best([1] * 4, thirds), [0, 4, 3] + [1, 3] * 4)
        quarters = [(2, 5, [k for k in range(1, 6) if k != out]) for out in range(1, 6)]
        self.assertEqual(best([1] * 5, quarters), [0, 5, 2] + [1, 4] * 5)
        self.assertEqual(best([2] * 5, quarters), [0, 5, 1] + [1, 2] * 5)

    def test_nought_at_each_place(self):
        self.assertEqual(best([0], [(10, 5, [1])]), [0, 0, 1, 0, 1])
        self.assertEqual(best([5], [(10, 0, [1])]), [0, 0, 1, 0, 1])
        self.assertEqual(best([0, 9], [(10, 5, [1, 2]), (1, 5, [2])]), [0, 5, 1, 0, 1, 5, 1])

    def test_a_fare_of_nought_still_gets_seats(self):
        self.assertEqual(best([5], [(0, 3, [1]), (0, 4, [1])]), [0, 0, 1, 3, 1, 2, 1])
        self.assertEqual(best([5], [(0, 9, [1]), (1, 4, [1])]), [0, 4, 1, 1, 1, 4, 1])

    def test_the_upper_ends(self):
        journeys = [(1000000, 1000, [k]) for k in range(1, 6)]
        self.assertEqual(best([1000] * 5, journeys), [0, 5000000000, 1] + [1000, 1] * 5)
        whole_way = [(1000000, 1000, [1, 2, 3, 4, 5])] * 5
        self.assertEqual(best([1000] * 5, whole_way), [0, 1000000000, 1, 1000, 1] + [0, 1] * 4)

    def test_a_sixth_leg_and_a_sixth_journey_do_not_count(self):
        told = asked([leg(1)] * 6 + [journey(1, 1, [k]) for k in range(1, 6)] + [journey(9, 9, [1]), BEST])
        self.assertEqual(told[-1], [0, 5, 1] + [1, 1] * 5)

    def test_after_changes(self):
        calls = house_calls([1, 1, 1], [(10, 9, [1, 2]), (10, 9, [2, 3]), (10, 9, [3, 1])])
        told = asked(calls + [BEST, cap(1, 2), BEST, demand(1, 0), BEST, fare(3, 11), BEST, BEST])
        self.assertEqual(told[6:], [[0, 15, 1] + [1, 2] * 3, [0], [0, 20, 1, 1, 1, 0, 1, 1, 1], [0],
                                    [0, 10, 1, 0, 1, 1, 1, 0, 1], [0], [0, 11, 1, 0, 1, 0, 1, 1, 1],
                                    [0, 11, 1, 0, 1, 0, 1, 1, 1]])


class BestOrderTest(unittest.TestCase):
    def test_most_to_the_first_journey_then_to_the_second(self):
        self.assertEqual(best([5], [(10, 3, [1])] * 3), [0, 50, 1, 3, 1, 2, 1, 0, 1])
        self.assertEqual(best([9], [(10, 3, [1])] * 5), [0, 90, 1] + [3, 1] * 3 + [0, 1] * 2)

    def test_the_order_is_that_of_the_journeys_alone(self):
        self.assertEqual(best([4, 4], [(20, 9, [1, 2]), (10, 9, [1]), (10, 9, [2])]),
                         [0, 80, 1, 4, 1, 0, 1, 0, 1])
        self.assertEqual(best([4, 4], [(10, 9, [1]), (20, 9, [1, 2]), (10, 9, [2])]),
                         [0, 80, 1, 4, 1, 0, 1, 4, 1])
        self.assertEqual(best([4, 4], [(10, 3, [2]), (20, 9, [1, 2]), (10, 9, [1])]),
                         [0, 80, 1, 3, 1, 1, 1, 3, 1])

    def test_a_later_journey_decides(self):
        self.assertEqual(best([2, 3], [(5, 1, [1]), (7, 2, [2]), (5, 9, [1]), (5, 9, [1]), (0, 9, [2])]),
                         [0, 24, 1, 1, 1, 2, 1, 1, 1, 0, 1, 1, 1])

    def test_the_order_may_ask_for_fractions(self):
        self.assertEqual(best([1, 1, 1], [(2, 9, [1, 2]), (2, 9, [2, 3]), (2, 9, [1, 3]), (3, 9, [1, 2, 3])]),
                         [0, 3, 1, 1, 2, 1, 2, 1, 2, 0, 1])
        self.assertEqual(best([1, 1, 1], [(3, 9, [1, 2, 3]), (2, 9, [1, 2]), (2, 9, [2, 3]), (2, 9, [1, 3])]),
                         [0, 3, 1, 1, 1, 0, 1, 0, 1, 0, 1])


class BestByCornersTest(unittest.TestCase):
    def compare(self, made, seed, count, most, capacities, fares, demands):
        sequence = Sequence(seed)
        for k in range(count):
            seats, journeys = made(sequence, most, capacities, fares, demands)
            self.assertEqual(best(seats, journeys), slow_best(seats, journeys), (seats, journeys))

    def test_many_ties(self):
        self.compare(mixed_house, 1, 150, 4, (0, 1, 2, 3), (0, 1, 2, 3), (0, 1, 2, 3))
        self.compare(mixed_house, 2, 150, 4, (1, 1, 2), (10, 10, 20), (1, 2, 1000))

    def test_wide_ranges(self):
        self.compare(mixed_house, 3, 100, 4, range(1001), range(1000001), range(1001))

    def test_many_fractions(self):
        self.compare(meshed_house, 4, 100, 4, (1, 3, 5), (10, 11, 12), (9, 1000))
        self.compare(meshed_house, 9, 100, 4, (1, 2, 3), (10, 10, 20), (1, 9))

    def test_full_houses(self):
        self.compare(meshed_house, 10, 30, 5, (1, 1, 2, 3), (10, 11), (1, 1000))
