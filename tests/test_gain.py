"""Point 8: how much more is earned with one seat more on a leg."""

import unittest

from tests.helper import (BEST, BIDS, SHOWN, Sequence, asked, cap, demand, fare, gain, house_calls, journey, last,
                          leg, meshed_house, mixed_house, slow_gain)

FAR = 1000000000000


def gains(capacities, journeys):
    """For each leg a pair: above and below the line."""
    calls = house_calls(capacities, journeys)
    told = asked(calls + [gain(number) for number in range(1, len(capacities) + 1)])[len(calls):]
    return [tuple(one[1:]) for one in told]


class GainTest(unittest.TestCase):
    def test_the_answer_is_nought_and_then_a_fraction(self):
        calls = house_calls([10, 5], [(100, 20, [1]), (150, 3, [1, 2])])
        self.assertEqual(last(calls + [gain(1)]), [0, 100, 1])
        self.assertEqual(last(calls + [gain(2)]), [0, 0, 1])

    def test_whole_gains(self):
        house = [(100, 20, [1]), (150, 9, [1, 2]), (70, 2, [2])]
        self.assertEqual(gains([10, 4], house), [(100, 1), (50, 1)])
        self.assertEqual(gains([10, 1], house), [(100, 1), (70, 1)])
        self.assertEqual(gains([1, 1, 1], [(10, 9, [1, 2]), (10, 9, [2, 3]), (10, 9, [3, 1])]), [(5, 1)] * 3)

    def test_gains_that_are_not_whole(self):
        ring = [(10, 9, [1, 2]), (11, 9, [2, 3]), (12, 9, [3, 1])]
        self.assertEqual(gains([1, 1, 1], ring), [(11, 2), (9, 2), (13, 2)])
        thirds = [(1, 9, [1, 2, 3]), (1, 9, [1, 2, 4]), (1, 9, [1, 3, 4]), (1, 9, [2, 3, 4])]
        self.assertEqual(gains([3] * 4, thirds), [(1, 3)] * 4)
        quarters = [(2, 9, [k for k in range(1, 6) if k != out]) for out in range(1, 6)]
        self.assertEqual(gains([4] * 5, quarters), [(1, 2)] * 5)
        self.assertEqual(gains([4] * 5, [(1, 9, one[2]) for one in quarters]), [(1, 4)] * 5)
        self.assertEqual(gains([1] * 5, quarters), [(1, 6)] * 5)

    def test_the_whole_seat_counts_not_a_trifle_of_it(self):
        # with half a seat more on leg 1 it's 2 more, and no more than that with a whole one
        house = [(4, 2, [4, 3]), (6, 1, [2, 1]), (6, 1, [1, 2, 4]), (6, 2, [3, 2])]
        self.assertEqual(asked(house_calls([1, 2, 1, 1], house) + [BEST, BIDS])[8:],
                         [[0, 12, 1, 0, 1, 1, 1, 0, 1, 1, 1], [0, 4, 1, 2, 1, 4, 1, 0, 1]])
        self.assertEqual(gains([1, 2, 1, 1], house)[0], (2, 1))

    def test_it_is_not_the_bid_price(self):
        self.assertEqual(last(house_calls([0, 0], [(10, 5, [1, 2])]) + [BIDS]), [0, 0, 1, 10, 1])
        self.assertEqual(gains([0, 0], [(10, 5, [1, 2])]), [(0, 1), (0, 1)])
        self.assertEqual(gains([5, 5], [(10, 100, [1, 2])]), [(0, 1), (0, 1)])
        self.assertEqual(gains([5, 6], [(10, 100, [1, 2])]), [(10, 1), (0, 1)])

    def test_no_gain(self):
        self.assertEqual(gains([5], []), [(0, 1)])
        self.assertEqual(gains([5], [(10, 5, [1])]), [(0, 1)])
        self.assertEqual(gains([0], [(10, 0, [1])]), [(0, 1)])
        self.assertEqual(gains([3], [(0, 5, [1])]), [(0, 1)])
        self.assertEqual(gains([3, 0], [(10, 5, [1])]), [(10, 1), (0, 1)])

    def test_a_leg_of_a_thousand_seats(self):
        self.assertEqual(gains([1000], [(7, 1000, [1]), (3, 1000, [1])]), [(3, 1)])
        self.assertEqual(gains([1000], [(7, 1000, [1])]), [(0, 1)])
        self.assertEqual(gains([999], [(7, 1000, [1]), (3, 1000, [1])]), [(7, 1)])
        ring = [(10, 1000, [1, 2]), (10, 1000, [2, 3]), (11, 1000, [3, 1])]
        self.assertEqual(gains([1000] * 3, ring), [(11, 2), (9, 2), (11, 2)])

    def test_five_legs_and_five_journeys_at_the_upper_ends(self):
        journeys = [(1000000, 1000, [k, k % 5 + 1]) for k in range(1, 6)]
        self.assertEqual(gains([1000] * 5, journeys), [(500000, 1)] * 5)
        self.assertEqual(gains([1000] * 5, [(999999, one[1], one[2]) for one in journeys]), [(999999, 2)] * 5)

    def test_it_is_what_best_then_tells(self):
        house = [(10, 2, [1, 2]), (11, 9, [2, 3]), (12, 9, [3, 1])]
        told = asked(house_calls([2, 2, 2], house) + [BEST, gain(3), cap(3, 3), BEST])
        self.assertEqual(told[6:], [[0, 33, 1] + [1, 1] * 3, [0, 13, 2], [0], [0, 79, 2, 1, 2, 3, 2, 3, 2]])

    def test_after_changes(self):
        calls = house_calls([10, 4], [(100, 20, [1]), (150, 20, [1, 2])])
        told = asked(calls + [gain(1), gain(2), fare(2, 90), gain(1), gain(2), demand(1, 10), gain(1), cap(1, 25),
                              gain(1), gain(2)])
        self.assertEqual(told[4:], [[0, 100, 1], [0, 50, 1], [0], [0, 100, 1], [0, 0, 1], [0], [0, 90, 1], [0],
                                    [0, 0, 1], [0, 90, 1]])

    def test_no_such_leg(self):
        self.assertEqual(asked([gain(1)]), [[-7]])
        calls = [leg(1), leg(1), journey(1, 1, [1]), journey(1, 1, [1]), journey(1, 1, [2])]
        self.assertEqual(asked(calls + [gain(number) for number in (1, 2, 3, 5)])[5:],
                         [[0, 1, 1], [0, 0, 1], [-7], [-7]])

    def test_out_of_range(self):
        calls = house_calls([1] * 5, [(1, 1, [1])] * 5)
        for number in (-FAR, -1, 0, 6, FAR):
            self.assertEqual(last(calls + [gain(number)]), [-2], number)
            self.assertEqual(asked([gain(number)]), [[-2]], number)

    def test_it_changes_nothing(self):
        calls = house_calls([4, 1000], [(10, 3, [1]), (25, 5, [2, 1])])
        told = asked(calls + [SHOWN, BEST, gain(1), gain(2), gain(3), gain(0), gain(1), gain(2), SHOWN, BEST])
        self.assertEqual(told[10:12], told[6:8])
        self.assertEqual(told[-2:], told[4:6])


class GainBySlowBestTest(unittest.TestCase):
    def compare(self, made, seed, count, most, capacities, fares, demands):
        sequence = Sequence(seed)
        for k in range(count):
            seats, journeys = made(sequence, most, capacities, fares, demands)
            slow = [tuple(slow_gain(seats, journeys, number)[1:]) for number in range(1, len(seats) + 1)]
            self.assertEqual(gains(seats, journeys), slow, (seats, journeys))

    def test_many_ties(self):
        self.compare(mixed_house, 24, 60, 3, (0, 1, 2, 3), (0, 1, 2, 3), (0, 1, 2, 3))

    def test_wide_ranges(self):
        self.compare(mixed_house, 25, 40, 3, range(1001), range(1000001), range(1001))

    def test_many_fractions(self):
        self.compare(meshed_house, 26, 15, 4, (1, 3, 5, 1000), (10, 11, 12), (1, 9, 1000))
