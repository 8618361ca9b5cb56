"""Point 11: whether each journey's legs follow one another."""

import unittest
from itertools import permutations

from tests.helper import (CLEAR, LINE, SHOWN, asked, cap, demand, fare, house_calls, journey, last, leg, slow_line)

FIVE = [leg(1)] * 5


def line(ways):
    return last(FIVE + [journey(1, 1, way) for way in ways] + [LINE])


class LineTest(unittest.TestCase):
    def test_no_legs_and_no_journeys(self):
        self.assertEqual(asked([LINE]), [[0, 1]])
        self.assertEqual(last(FIVE + [LINE]), [0, 1])

    def test_without_a_gap(self):
        for way in ([1], [3], [5], [1, 2], [4, 5], [2, 3, 4], [1, 2, 3, 4], [1, 2, 3, 4, 5]):
            self.assertEqual(line([way]), [0, 1], way)

    def test_in_whatever_order(self):
        for way in ([2, 1], [5, 4], [3, 1, 2], [4, 2, 3], [5, 2, 4, 3], [3, 5, 1, 4, 2]):
            self.assertEqual(line([way]), [0, 1], way)

    def test_with_a_gap(self):
        for way in ([1, 3], [3, 1], [1, 5], [5, 1], [1, 2, 4], [4, 1, 2], [2, 5, 3], [1, 2, 4, 5], [5, 3, 2, 1]):
            self.assertEqual(line([way]), [0, 0], way)

    def test_one_journey_with_a_gap_is_enough(self):
        good = [[1, 2], [3], [5, 4, 3], [2, 3, 1], [4]]
        self.assertEqual(line(good), [0, 1])
        for number in range(5):
            self.assertEqual(line(good[:number] + [[2, 4]] + good[number + 1:]), [0, 0], number)

    def test_gaps_between_journeys_do_not_count(self):
        self.assertEqual(line([[1], [5], [3]]), [0, 1])
        self.assertEqual(line([[1, 3], [2]]), [0, 0])

    def test_fares_demands_and_capacities_do_not_count(self):
        calls = house_calls([0, 1000, 0], [(0, 0, [1, 3]), (5, 5, [2, 3])])
        told = asked(calls + [LINE, cap(2, 0), demand(1, 5), fare(1, 5), LINE])
        self.assertEqual([told[5], told[9]], [[0, 0]] * 2)

    def test_a_leg_or_a_journey_more(self):
        told = asked([leg(1), leg(1), journey(1, 1, [2, 1]), LINE, leg(1), LINE, journey(1, 1, [3, 1]), LINE,
                      journey(1, 1, [3, 2]), LINE, CLEAR, LINE])
        self.assertEqual([told[place] for place in (3, 5, 7, 9, 11)], [[0, 1], [0, 1], [0, 0], [0, 0], [0, 1]])

    def test_a_refused_journey_does_not_count(self):
        told = asked([leg(1), leg(1), journey(1, 1, [1, 3]), journey(1, 1, [1, 1]), LINE])
        self.assertEqual(told[2:], [[-7], [-9], [0, 1]])

    def test_every_way(self):
        for length in range(1, 6):
            for way in permutations(range(1, 6), length):
                self.assertEqual(line([way]), slow_line([(1, 1, way)]), way)

    def test_it_changes_nothing(self):
        told = asked(FIVE + [journey(9, 8, [3, 1]), SHOWN, LINE, LINE, SHOWN])
        self.assertEqual(told[7:9], [[0, 0]] * 2)
        self.assertEqual(told[9], told[6])
