"""Point 9: the best whole division."""

import unittest

from tests.helper import (BEST, SHOWN, WHOLE, Sequence, asked, cap, demand, fare, house_calls, last, leg,
                          meshed_house, mixed_house, slow_whole)


def whole(capacities, journeys):
    return last(house_calls(capacities, journeys) + [WHOLE])


class WholeTest(unittest.TestCase):
    def test_no_legs_and_no_journeys(self):
        self.assertEqual(asked([WHOLE]), [[0, 0]])

    def test_legs_alone(self):
        self.assertEqual(asked([leg(5), leg(1000), WHOLE])[2], [0, 0])

    def test_ordinary_houses(self):
        self.assertEqual(whole([10, 5], [(100, 20, [1]), (150, 3, [1, 2])]), [0, 1150, 7, 3])
        self.assertEqual(whole([10, 5], [(100, 4, [1]), (150, 9, [1, 2]), (70, 9, [2])]), [0, 1150, 4, 5, 0])

    def test_the_best_division_is_not_whole(self):
        ring = [(10, 9, [1, 2]), (11, 9, [2, 3]), (12, 9, [3, 1])]
        told = asked(house_calls([1, 1, 1], ring) + [BEST, WHOLE])
        self.assertEqual(told[6:], [[0, 33, 2] + [1, 2] * 3, [0, 12, 0, 0, 1]])
        self.assertEqual(whole([3, 3, 3], ring), [0, 45, 1, 1, 2])
        thirds = [(1, 5, [1, 2, 3]), (1, 5, [1, 2, 4]), (1, 5, [1, 3, 4]), (2, 5, [2, 3, 4])]
        self.assertEqual(whole([1] * 4, thirds), [0, 2, 0, 0, 0, 1])

    def test_a_journey_that_the_best_division_leaves_out(self):
        house = [(10, 9, [1, 2]), (10, 9, [2, 3]), (10, 9, [1, 3]), (14, 9, [1, 2, 3])]
        told = asked(house_calls([1, 1, 1], house) + [BEST, WHOLE])
        self.assertEqual(told[7:], [[0, 15, 1] + [1, 2] * 3 + [0, 1], [0, 14, 0, 0, 0, 1]])

    def test_nought_at_each_place(self):
        self.assertEqual(whole([0], [(10, 5, [1])]), [0, 0, 0])
        self.assertEqual(whole([5], [(10, 0, [1])]), [0, 0, 0])
        self.assertEqual(whole([5], [(0, 4, [1])]), [0, 0, 4])
        self.assertEqual(whole([0, 9], [(10, 5, [1, 2]), (1, 5, [2])]), [0, 5, 0, 5])
        self.assertEqual(whole([9], [(1, 5, [1]), (10, 0, [1]), (2, 6, [1])]), [0, 15, 3, 0, 6])

    def test_the_upper_ends(self):
        self.assertEqual(whole([1000], [(1000000, 1000, [1])]), [0, 1000000000, 1000])
        house = [(1000000, 6, [k]) for k in range(1, 6)]
        self.assertEqual(whole([1000] * 5, house), [0, 30000000, 6, 6, 6, 6, 6])
        house = [(1000000, 1000, [1, 2, 3, 4, 5])] * 5
        self.assertEqual(whole([6, 7, 8, 9, 1000], house), [0, 6000000, 6, 0, 0, 0, 0])

    def test_after_changes(self):
        calls = house_calls([1, 1, 1], [(10, 9, [1, 2]), (10, 9, [2, 3]), (10, 9, [3, 1])])
        told = asked(calls + [WHOLE, cap(1, 2), WHOLE, demand(1, 0), WHOLE, fare(3, 11), WHOLE, WHOLE])
        self.assertEqual(told[6:], [[0, 10, 1, 0, 0], [0], [0, 20, 1, 0, 1], [0], [0, 10, 0, 1, 0], [0],
                                    [0, 11, 0, 0, 1], [0, 11, 0, 0, 1]])

    def test_it_changes_nothing(self):
        calls = house_calls([4, 1000], [(10, 3, [1]), (25, 5, [2, 1])])
        told = asked(calls + [SHOWN, BEST, WHOLE, WHOLE, SHOWN, BEST])
        self.assertEqual(told[6:8], [[0, 100, 0, 4]] * 2)
        self.assertEqual(told[8:], told[4:6])


class WholeOrderTest(unittest.TestCase):
    def test_most_to_the_first_journey_then_to_the_second(self):
        self.assertEqual(whole([5], [(10, 3, [1])] * 3), [0, 50, 3, 2, 0])
        self.assertEqual(whole([9], [(10, 3, [1])] * 5), [0, 90, 3, 3, 3, 0, 0])
        ring = [(10, 9, [1, 2]), (10, 9, [2, 3]), (10, 9, [3, 1])]
        self.assertEqual(whole([1, 1, 1], ring), [0, 10, 1, 0, 0])
        self.assertEqual(whole([3, 3, 3], ring), [0, 40, 2, 1, 1])
        self.assertEqual(whole([3] * 5, [(10, 9, [k, k % 5 + 1]) for k in range(1, 5)] + [(10, 1, [5, 1])]),
                         [0, 70, 2, 1, 2, 1, 1])

    def test_whichever_journey_can_take_most(self):
        for wide in range(4):
            house = [(10, 9 if k == wide else 2, [1]) for k in range(4)]
            seats = ([5, 0, 0, 0], [2, 3, 0, 0], [2, 2, 1, 0], [2, 2, 1, 0])[wide]
            self.assertEqual(whole([5], house), [0, 50] + seats, wide)

    def test_the_order_is_that_of_the_journeys_alone(self):
        self.assertEqual(whole([4, 4], [(20, 9, [1, 2]), (10, 9, [1]), (10, 9, [2])]), [0, 80, 4, 0, 0])
        self.assertEqual(whole([4, 4], [(10, 9, [1]), (20, 9, [1, 2]), (10, 9, [2])]), [0, 80, 4, 0, 4])
        self.assertEqual(whole([4, 4], [(10, 3, [2]), (20, 9, [1, 2]), (10, 9, [1])]), [0, 80, 3, 1, 3])

    def test_what_is_earned_comes_first(self):
        self.assertEqual(whole([5], [(0, 9, [1]), (1, 4, [1])]), [0, 4, 1, 4])
        self.assertEqual(whole([5], [(9, 9, [1]), (10, 9, [1])]), [0, 50, 0, 5])

    def test_a_fare_of_nought_still_gets_seats(self):
        self.assertEqual(whole([5], [(0, 3, [1]), (0, 4, [1])]), [0, 0, 3, 2])
        self.assertEqual(whole([5, 2], [(10, 3, [1]), (0, 9, [1, 2]), (0, 9, [2])]), [0, 30, 3, 2, 0])


class WholeProductTest(unittest.TestCase):
    def test_just_twenty_thousand(self):
        self.assertEqual(whole([999, 1000], [(3, 1000, [1]), (2, 19, [2])]), [0, 3035, 999, 19])
        self.assertEqual(whole([20], [(k, 4, [1]) for k in (1, 2, 3, 4)] + [(5, 31, [1])]), [0, 100, 0, 0, 0, 0, 20])

    def test_one_above_twenty_thousand(self):
        house = [(1, 2, [1]), (1, 58, [1]), (1, 112, [1])]
        self.assertEqual(whole([1000], house), [-8])
        self.assertEqual(whole([1000], house[1:]), [0, 170, 58, 112])

    def test_above(self):
        self.assertEqual(whole([999, 1000], [(3, 1000, [1]), (2, 20, [2])]), [-8])
        self.assertEqual(whole([1000], [(1, 1000, [1])] * 2), [-8])
        self.assertEqual(whole([1000] * 5, [(1000000, 1000, [k]) for k in range(1, 6)]), [-8])
        self.assertEqual(whole([7] * 5, [(1, 1000, [1, 2, 3, 4, 5])] * 5), [-8])

    def test_it_is_the_product_though_few_of_the_choices_are_divisions(self):
        self.assertEqual(whole([26], [(1, 1000, [1])] * 3), [0, 26, 26, 0, 0])
        self.assertEqual(whole([27], [(1, 1000, [1])] * 3), [-8])

    def test_the_most_is_the_least_of_demand_and_capacities(self):
        self.assertEqual(whole([1000, 19], [(1, 999, [1]), (1, 1000, [1, 2])]), [0, 1000, 999, 1])
        self.assertEqual(whole([1000, 19], [(1, 999, [1]), (1, 1000, [2, 1])]), [0, 1000, 999, 1])
        self.assertEqual(whole([1000, 20], [(1, 999, [1]), (1, 1000, [1, 2])]), [-8])
        self.assertEqual(whole([1000, 1000], [(1, 999, [1]), (1, 19, [1, 2])]), [0, 1000, 999, 1])

    def test_a_most_of_nought_counts_as_one(self):
        self.assertEqual(whole([0] + [1000] * 4, [(9, 1000, [1, 2, 3, 4, 5])] * 5), [0] * 7)
        self.assertEqual(whole([1000, 0], [(9, 1000, [1]), (9, 0, [1]), (9, 1000, [2])]), [0, 9000, 1000, 0, 0])
        self.assertEqual(whole([1000, 0], [(9, 1000, [1]), (9, 1000, [1]), (9, 1000, [2])]), [-8])

    def test_a_refusal_changes_nothing(self):
        calls = house_calls([30], [(2, 30, [1]), (3, 30, [1]), (4, 30, [1])])
        told = asked(calls + [SHOWN, WHOLE, SHOWN, demand(3, 10), WHOLE, cap(1, 1000), WHOLE, demand(3, 21), WHOLE])
        self.assertEqual(told[4:], [[0, 1, 30, 2, 30, 1, 1, 3, 30, 1, 1, 4, 30, 1, 1], [-8], told[4], [0],
                                    [0, 100, 0, 20, 10], [0], [0, 190, 30, 30, 10], [0], [-8]])


class WholeByTryingAllTest(unittest.TestCase):
    def compare(self, made, seed, count, most, capacities, fares, demands):
        sequence = Sequence(seed)
        refused = 0
        for k in range(count):
            seats, journeys = made(sequence, most, capacities, fares, demands)
            told = whole(seats, journeys)
            self.assertEqual(told, slow_whole(seats, journeys), (seats, journeys))
            refused += told == [-8]
        return refused

    def test_many_ties(self):
        self.compare(mixed_house, 31, 150, 4, (0, 1, 2, 3), (0, 1, 2, 3), (0, 1, 2, 3))
        self.compare(mixed_house, 32, 100, 4, (1, 1, 2), (10, 10, 20), (1, 2, 1000))

    def test_wide_ranges(self):
        refused = self.compare(mixed_house, 33, 100, 5, (3, 5, 8, 30, 1000), range(1000001), (1, 2, 4, 9, 1000))
        self.assertTrue(0 < refused < 100)

    def test_many_fractions(self):
        self.compare(meshed_house, 34, 100, 4, (1, 3, 5), (10, 11, 12), (9, 1000))

    def test_full_houses(self):
        self.compare(meshed_house, 35, 100, 5, (1, 1, 2, 3), (10, 11), (1, 1000))
