"""Point 7: whether a journey's fare reaches its ask by the bid prices."""

import unittest

from tests.helper import (BIDS, SHOWN, Sequence, accept, asked, cap, demand, fare, house_calls, journey, last, leg,
                          meshed_house, mixed_house, slow_accept)

FAR = 1000000000000


def accepted(capacities, journeys):
    """For each journey 1 or 0."""
    calls = house_calls(capacities, journeys)
    told = asked(calls + [accept(number) for number in range(1, len(journeys) + 1)])[len(calls):]
    return [number for one in told for number in one[1:]]


class AcceptTest(unittest.TestCase):
    def test_the_answer_is_nought_and_then_one_number(self):
        calls = house_calls([10, 5], [(100, 20, [1]), (99, 5, [1])])
        self.assertEqual(last(calls + [accept(1)]), [0, 1])
        self.assertEqual(last(calls + [accept(2)]), [0, 0])

    def test_above_the_ask_just_the_ask_and_below_it(self):
        house = [(100, 20, [1]), (150, 3, [1, 2]), (100, 9, [1]), (99, 9, [1]), (100, 9, [2, 1])]
        self.assertEqual(accepted([10, 5], house), [1, 1, 1, 0, 1])

    def test_the_ask_is_that_of_all_its_legs(self):
        # the prices are 100 and 50
        house = [(100, 20, [1]), (150, 9, [1, 2]), (70, 2, [2]), (149, 5, [2, 1]), (50, 1, [2])]
        self.assertEqual(accepted([10, 4], house), [1, 1, 1, 0, 1])
        # the prices are 1, 2 and 4; a journey that wants no seats doesn't change them
        single = [(1, 9, [1]), (2, 9, [2]), (4, 9, [3])]
        for way, ask in (([1, 2], 3), ([3, 1], 5), ([2, 3], 6), ([3, 1, 2], 7)):
            house = single + [(ask, 0, way), (ask - 1, 0, way)]
            self.assertEqual(accepted([5, 5, 5], house), [1, 1, 1, 1, 0], way)

    def test_asks_that_are_not_whole(self):
        # the prices are 11/2, 9/2 and 13/2
        ring = [(10, 9, [1, 2]), (11, 9, [2, 3]), (12, 9, [3, 1])]
        self.assertEqual(accepted([1, 1, 1], ring), [1, 1, 1])
        self.assertEqual(accepted([1, 1, 1], ring + [(5, 0, [1]), (6, 0, [1])]), [1, 1, 1, 0, 1])
        self.assertEqual(accepted([1, 1, 1], ring + [(4, 0, [2]), (5, 0, [2])]), [1, 1, 1, 0, 1])
        self.assertEqual(accepted([1, 1, 1], ring + [(16, 0, [1, 2, 3]), (17, 0, [3, 2, 1])]), [1, 1, 1, 0, 1])
        # each price is 1/3: two legs ask 2/3, three ask 1
        thirds = [(1, 5, [1, 2, 3]), (1, 5, [1, 2, 4]), (1, 5, [1, 3, 4]), (1, 5, [2, 3, 4])]
        for paid, way, told in ((0, [1], 0), (1, [2, 3], 1), (1, [4, 3, 2], 1), (1, [1, 2, 3, 4], 0)):
            self.assertEqual(accepted([1] * 4, thirds + [(paid, 0, way)]), [1, 1, 1, 1, told], way)

    def test_the_ask_is_by_the_bid_prices_though_others_cost_as_little(self):
        house = [(10, 100, [1, 2]), (0, 0, [1]), (9, 0, [2]), (10, 0, [2])]
        self.assertEqual(accepted([5, 5], house), [1, 1, 0, 1])

    def test_a_fare_of_nought(self):
        self.assertEqual(accepted([5], [(0, 3, [1])]), [1])
        self.assertEqual(accepted([5], [(0, 3, [1]), (10, 5, [1])]), [1, 1])
        self.assertEqual(accepted([5], [(0, 3, [1]), (10, 6, [1])]), [0, 1])

    def test_no_capacity_and_no_demand(self):
        self.assertEqual(accepted([0], [(10, 5, [1]), (9, 5, [1])]), [1, 0])
        self.assertEqual(accepted([0], [(10, 0, [1]), (9, 0, [1])]), [1, 1])

    def test_five_legs_and_five_journeys(self):
        quarters = [(2, 5, [k for k in range(1, 6) if k != out]) for out in range(1, 6)]
        self.assertEqual(accepted([1] * 5, quarters), [1] * 5)
        whole_way = [(1000000 - k, 1000, [1, 2, 3, 4, 5]) for k in range(5)]
        self.assertEqual(accepted([999] * 5, whole_way), [1, 0, 0, 0, 0])
        self.assertEqual(accepted([1000] * 5, whole_way), [1, 1, 0, 0, 0])

    def test_after_changes(self):
        calls = house_calls([10], [(100, 20, [1]), (90, 20, [1])])
        told = asked(calls + [accept(2), fare(2, 100), accept(2), fare(2, 101), accept(1), accept(2), demand(2, 9),
                              accept(1), cap(1, 29), accept(1)])
        self.assertEqual(told[3:], [[0, 0], [0], [0, 1], [0], [0, 0], [0, 1], [0], [0, 1], [0], [0, 1]])

    def test_no_such_journey(self):
        self.assertEqual(asked([accept(1)]), [[-3]])
        self.assertEqual(last([leg(1)] * 5 + [accept(1)]), [-3])
        calls = [leg(1), journey(1, 1, [1]), journey(1, 1, [1])]
        self.assertEqual(asked(calls + [accept(number) for number in (2, 3, 5)])[3:], [[0, 1], [-3], [-3]])

    def test_out_of_range(self):
        calls = house_calls([1] * 5, [(1, 1, [1])] * 5)
        for number in (-FAR, -1, 0, 6, FAR):
            self.assertEqual(last(calls + [accept(number)]), [-2], number)
            self.assertEqual(asked([accept(number)]), [[-2]], number)

    def test_it_changes_nothing(self):
        calls = house_calls([4, 6], [(10, 3, [1]), (25, 5, [2, 1])])
        told = asked(calls + [SHOWN, BIDS, accept(1), accept(2), accept(3), accept(0), SHOWN, BIDS])
        self.assertEqual(told[-2:], told[4:6])


class AcceptBySlowBidsTest(unittest.TestCase):
    def compare(self, made, seed, count, capacities, fares, demands):
        sequence = Sequence(seed)
        seen = set()
        for k in range(count):
            seats, journeys = made(sequence, 4, capacities, fares, demands)
            told = accepted(seats, journeys)
            slow = [slow_accept(seats, journeys, number)[1] for number in range(1, len(journeys) + 1)]
            self.assertEqual(told, slow, (seats, journeys))
            seen.update(told)
        self.assertEqual(seen, {0, 1})

    def test_many_ties(self):
        self.compare(mixed_house, 21, 80, (0, 1, 2, 3), (0, 1, 2, 3), (0, 1, 2, 3))

    def test_wide_ranges(self):
        self.compare(mixed_house, 22, 60, range(1001), range(1000001), range(1001))

    def test_many_fractions(self):
        self.compare(meshed_house, 23, 60, (1, 3, 5), (9, 10, 11, 12), (0, 9, 1000))
