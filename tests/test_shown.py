"""Points 12 and 13: clear and shown."""

import unittest

from tests.helper import (BEST, BIDS, CLEAR, LINE, SHOWN, WHOLE, accept, asked, cap, demand, fare, feasible, gain,
                          house_calls, journey, last, leg, shown)

SMALL = house_calls([4, 6], [(10, 3, [1]), (25, 5, [2, 1])])
FULL = house_calls([1, 2, 3, 4, 5], [(10 * k, k, [k, k % 5 + 1]) for k in range(1, 6)])


class ShownTest(unittest.TestCase):
    def test_no_legs_and_no_journeys(self):
        self.assertEqual(asked([SHOWN]), [[0, 0]])

    def test_legs_alone(self):
        self.assertEqual(asked([leg(7), SHOWN, leg(0), leg(1000), SHOWN])[1::3], [[0, 1, 7], [0, 3, 7, 0, 1000]])

    def test_legs_and_journeys(self):
        self.assertEqual(last(SMALL + [SHOWN]), [0, 2, 4, 6, 10, 3, 1, 1, 25, 5, 2, 2, 1])

    def test_the_legs_stand_in_the_order_in_which_they_were_named(self):
        ways = [[3, 1, 2], [1, 2, 3], [2, 5], [5, 4, 3, 2, 1], [4]]
        told = last([leg(9)] * 5 + [journey(7, 8, way) for way in ways] + [SHOWN])
        self.assertEqual(told, [0, 5] + [9] * 5 + [7, 8, 3, 3, 1, 2, 7, 8, 3, 1, 2, 3, 7, 8, 2, 2, 5,
                                                   7, 8, 5, 5, 4, 3, 2, 1, 7, 8, 1, 4])

    def test_a_full_house(self):
        self.assertEqual(last(FULL + [SHOWN]), [0, 5, 1, 2, 3, 4, 5, 10, 1, 2, 1, 2, 20, 2, 2, 2, 3, 30, 3, 2, 3, 4,
                                                40, 4, 2, 4, 5, 50, 5, 2, 5, 1])
        longest = house_calls([1000] * 5, [(1000000, 1000, [5, 1, 4, 2, 3])] * 5)
        self.assertEqual(last(longest + [SHOWN]), [0, 5] + [1000] * 5 + [1000000, 1000, 5, 5, 1, 4, 2, 3] * 5)

    def test_after_changes(self):
        told = asked(SMALL + [cap(2, 0), SHOWN, demand(1, 1000), SHOWN, fare(2, 1000000), SHOWN, leg(9), SHOWN])
        self.assertEqual(told[5::2], [[0, 2, 4, 0, 10, 3, 1, 1, 25, 5, 2, 2, 1],
                                      [0, 2, 4, 0, 10, 1000, 1, 1, 25, 5, 2, 2, 1],
                                      [0, 2, 4, 0, 10, 1000, 1, 1, 1000000, 5, 2, 2, 1],
                                      [0, 3, 4, 0, 9, 10, 1000, 1, 1, 1000000, 5, 2, 2, 1]])

    def test_nothing_is_changed_by_what_is_only_asked(self):
        asks = [BEST, BIDS, accept(1), accept(2), gain(1), gain(2), WHOLE, feasible([1, 1]), feasible([9, 9]), LINE,
                SHOWN]
        for ask in asks:
            told = asked(SMALL + [SHOWN, ask, SHOWN, ask, leg(1), journey(1, 1, [3, 1])])
            self.assertEqual(told[5][0], 0, ask)
            self.assertEqual(told[4:6], told[6:8], ask)
            self.assertEqual(told[8:], [[0, 3], [0, 3]], ask)

    def test_nothing_is_changed_by_what_is_refused(self):
        refused = [(leg(-1), -2), (leg(1001), -2), (journey(1, 1, []), -2), (journey(1, 1, [1] * 6), -2),
                   (journey(1, 1, [3]), -7), (journey(1, 1, [1, 1]), -9), (cap(3, 1), -7), (cap(1, 1001), -2),
                   (demand(3, 1), -3), (demand(1, -1), -2), (fare(3, 1), -3), (fare(1, 1000001), -2),
                   (accept(3), -3), (accept(0), -2), (accept(6), -2), (gain(3), -7), (gain(0), -2), (gain(6), -2),
                   (feasible([1]), -10), (feasible([1, 1, 1]), -10), (feasible([1, -1]), -2),
                   (feasible([0] * 6), -2)]
        for call, refusal in refused:
            told = asked(SMALL + [SHOWN, call, SHOWN, leg(1), journey(1, 1, [3, 1])])
            self.assertEqual(told[5:], [[refusal], told[4], [0, 3], [0, 3]], call)
        told = asked(FULL + [SHOWN, leg(1), journey(1, 1, [1]), SHOWN])
        self.assertEqual(told[10:], [told[10], [-6], [-6], told[10]])
        wide = house_calls([1000], [(1, 1000, [1])] * 2)
        told = asked(wide + [SHOWN, WHOLE, SHOWN])
        self.assertEqual(told[3:], [told[3], [-8], told[3]])


class ClearTest(unittest.TestCase):
    def test_the_answer_is_nought_alone(self):
        self.assertEqual(asked([CLEAR]), [[0]])
        self.assertEqual(last(FULL + [CLEAR]), [0])
        self.assertEqual(asked([CLEAR, CLEAR, CLEAR]), [[0]] * 3)

    def test_nothing_is_there_any_more(self):
        for calls in ([], [leg(1)], SMALL, FULL):
            told = asked(calls + [CLEAR, SHOWN, BEST, BIDS, WHOLE, feasible([]), feasible([1]), LINE, accept(1),
                                  gain(1), cap(1, 1), demand(1, 1), fare(1, 1), journey(1, 1, [1])])
            self.assertEqual(told[len(calls):], [[0], [0, 0], [0, 0, 1], [0], [0, 0], [0, 1, 0], [-10], [0, 1], [-3],
                                                 [-7], [-7], [-3], [-3], [-7]])

    def test_legs_and_journeys_are_counted_from_1_again(self):
        told = asked(SMALL + [CLEAR, leg(8), leg(9), journey(3, 4, [2]), SHOWN, BEST])
        self.assertEqual(told[5:], [[0, 1], [0, 2], [0, 1], [0, 2, 8, 9, 3, 4, 1, 2], [0, 12, 1, 4, 1]])

    def test_there_is_room_again(self):
        told = asked(FULL + [leg(1), journey(1, 1, [1]), CLEAR] + FULL + [leg(1), journey(1, 1, [1]), SHOWN])
        self.assertEqual(told[10:13], [[-6], [-6], [0]])
        self.assertEqual(told[13:23], told[:10])
        self.assertEqual(told[23:], [[-6], [-6], last(FULL + [SHOWN])])

    def test_the_house_behind_it_is_as_a_new_one(self):
        asks = [BEST, BIDS, accept(2), gain(1), WHOLE, feasible([2, 2]), LINE, SHOWN, cap(2, 1), fare(1, 7), SHOWN]
        told = asked(FULL + [CLEAR] + SMALL + asks)
        self.assertEqual(told[11:], asked(SMALL + asks))

    def test_shown_of_the_helper(self):
        self.assertEqual(last(SMALL + [SHOWN]), [0] + shown([4, 6], [(10, 3, [1]), (25, 5, [2, 1])]))
