"""Point 10: whether numbers of seats are a division, and what they earn."""

import unittest

from tests.helper import (SHOWN, Sequence, asked, cap, demand, earned, fare, feasible, house_calls, is_division,
                          journey, last, leg, mixed_house)

FAR = 1000000000000
HOUSE = house_calls([10, 5, 7], [(100, 20, [1]), (150, 4, [2, 1]), (70, 9, [3, 2])])


class FeasibleTest(unittest.TestCase):
    def test_a_division(self):
        for seats, told in (([0, 0, 0], 0), ([6, 4, 1], 1270), ([10, 0, 5], 1350), ([1, 2, 3], 610)):
            self.assertEqual(last(HOUSE + [feasible(seats)]), [0, 1, told], seats)

    def test_above_a_demand(self):
        self.assertEqual(last(HOUSE + [feasible([0, 5, 0])]), [0, 0, 750])
        self.assertEqual(last(house_calls([9, 9], [(1, 3, [1]), (1, 4, [2])]) + [feasible([3, 4])]), [0, 1, 7])
        self.assertEqual(last(house_calls([9, 9], [(1, 3, [1]), (1, 4, [2])]) + [feasible([4, 3])]), [0, 0, 7])
        self.assertEqual(last(house_calls([9, 9], [(1, 3, [1]), (1, 4, [2])]) + [feasible([2, 5])]), [0, 0, 7])

    def test_above_a_capacity_of_one_journey(self):
        self.assertEqual(last(HOUSE + [feasible([11, 0, 0])]), [0, 0, 1100])
        self.assertEqual(last(HOUSE + [feasible([0, 0, 6])]), [0, 0, 420])

    def test_above_a_capacity_that_several_share(self):
        self.assertEqual(last(HOUSE + [feasible([7, 4, 0])]), [0, 0, 1300])
        self.assertEqual(last(HOUSE + [feasible([0, 3, 2])]), [0, 1, 590])
        self.assertEqual(last(HOUSE + [feasible([0, 3, 3])]), [0, 0, 660])
        five = house_calls([9, 9, 9, 9, 10], [(k, 2, [5, k]) for k in range(1, 5)] + [(5, 3, [5])])
        self.assertEqual(last(five + [feasible([2, 2, 2, 2, 2])]), [0, 1, 30])
        self.assertEqual(last(five + [feasible([2, 2, 2, 2, 3])]), [0, 0, 35])

    def test_the_sum_has_each_fare_with_its_seats(self):
        self.assertEqual(last(HOUSE + [feasible([1, 0, 0])]), [0, 1, 100])
        self.assertEqual(last(HOUSE + [feasible([0, 1, 0])]), [0, 1, 150])
        self.assertEqual(last(HOUSE + [feasible([0, 0, 1])]), [0, 1, 70])

    def test_it_need_not_be_the_best(self):
        self.assertEqual(last(house_calls([5], [(10, 5, [1]), (0, 5, [1])]) + [feasible([0, 5])]), [0, 1, 0])

    def test_none_and_a_thousand_seats(self):
        full = house_calls([1000], [(1000000, 1000, [1])])
        self.assertEqual(last(full + [feasible([0])]), [0, 1, 0])
        self.assertEqual(last(full + [feasible([1000])]), [0, 1, 1000000000])
        self.assertEqual(last(full + [cap(1, 999), feasible([1000])]), [0, 0, 1000000000])
        self.assertEqual(last(full + [demand(1, 999), feasible([1000])]), [0, 0, 1000000000])
        five = house_calls([1000] * 5, [(1000000, 1000, [k]) for k in range(1, 6)])
        self.assertEqual(last(five + [feasible([1000] * 5)]), [0, 1, 5000000000])
        shared = house_calls([1000] * 5, [(1000000, 1000, [1, 2, 3, 4, 5])] * 5)
        self.assertEqual(last(shared + [feasible([1000] * 5)]), [0, 0, 5000000000])
        nought = house_calls([0, 5], [(3, 9, [1]), (3, 0, [2])])
        self.assertEqual(asked(nought + [feasible([0, 0]), feasible([1, 0]), feasible([0, 1])])[4:],
                         [[0, 1, 0], [0, 0, 3], [0, 0, 3]])

    def test_no_journeys_and_an_empty_row(self):
        self.assertEqual(asked([feasible([])]), [[0, 1, 0]])
        self.assertEqual(asked([leg(0), leg(5), feasible([])])[2], [0, 1, 0])

    def test_after_changes(self):
        seats = feasible([5, 4, 1])
        told = asked(HOUSE + [seats, cap(1, 8), seats, cap(1, 9), seats, demand(2, 3), seats, demand(2, 4), fare(2, 1),
                              seats])
        self.assertEqual(told[6:], [[0, 1, 1170], [0], [0, 0, 1170], [0], [0, 1, 1170], [0], [0, 0, 1170], [0], [0],
                                    [0, 1, 574]])

    def test_not_as_many_numbers_as_journeys(self):
        for count in range(6):
            calls = [leg(1000)] * 5 + [journey(1, 1000, [1])] * count
            for length in range(6):
                told = last(calls + [feasible([1] * length)])
                self.assertEqual(told, [0, 1, count] if length == count else [-10], (count, length))

    def test_out_of_range(self):
        for number in (-FAR, -1, 1001, FAR):
            for row in ([number, 0, 0], [0, number, 0], [0, 0, number]):
                self.assertEqual(last(HOUSE + [feasible(row)]), [-2], row)

    def test_the_length_of_the_row(self):
        five = house_calls([1000], [(1, 1, [1])] * 5)
        for length in range(6, 21):
            self.assertEqual(last(five + [feasible([0] * length)]), [-2], length)
            self.assertEqual(asked([feasible([0] * length)]), [[-2]], length)

    def test_out_of_range_comes_ahead_of_not_as_many(self):
        for row in ([-1], [1001, 0], [0, 0, 0, FAR], [0, 0, 0, 0, -FAR], [0] * 6, [FAR] * 20):
            self.assertEqual(last(HOUSE + [feasible(row)]), [-2], row)
        self.assertEqual(last(HOUSE + [feasible([1000] * 4)]), [-10])
        self.assertEqual(last(HOUSE + [feasible([])]), [-10])

    def test_it_changes_nothing(self):
        rows = [[1, 2, 3], [11, 0, 0], [1], [1001, 0, 0], [0] * 20]
        told = asked(HOUSE + [SHOWN] + [feasible(row) for row in rows] + [SHOWN])
        self.assertEqual(told[7:12], [[0, 1, 610], [0, 0, 1100], [-10], [-2], [-2]])
        self.assertEqual(told[-1], told[6])

    def test_many_houses(self):
        sequence = Sequence(41)
        seen = []
        for k in range(300):
            seats, journeys = mixed_house(sequence, 5, range(2, 9), range(1000001), range(1, 6))
            row = [sequence.below(4) for one in journeys]
            told = last(house_calls(seats, journeys) + [feasible(row)])
            self.assertEqual(told, [0, int(is_division(row, seats, journeys)), earned(row, journeys)])
            seen.append(told[1])
        self.assertTrue(50 < sum(seen) < 250)
