"""Points 0 to 4: leg, journey, cap, demand, fare, and their refusals."""

import unittest

from tests.helper import BEST, BIDS, asked, cap, demand, fare, house_calls, journey, last, leg

FAR = 1000000000000
SMALL_HOUSE = house_calls([4, 6], [(10, 3, [1]), (25, 5, [2, 1])])


class LegTest(unittest.TestCase):
    def test_legs_are_counted_from_1(self):
        self.assertEqual(asked([leg(3), leg(0), leg(1000)]), [[0, 1], [0, 2], [0, 3]])

    def test_the_sixth_leg_is_refused(self):
        told = asked([leg(k) for k in range(7)])
        self.assertEqual(told, [[0, 1], [0, 2], [0, 3], [0, 4], [0, 5], [-6], [-6]])

    def test_the_range_of_the_capacity(self):
        for capacity in (-FAR, -1, 1001, FAR):
            self.assertEqual(asked([leg(capacity), leg(1)]), [[-2], [0, 1]], capacity)

    def test_out_of_range_comes_ahead_of_no_room(self):
        self.assertEqual(last([leg(1)] * 5 + [leg(1001)]), [-2])

    def test_the_capacity_is_that_of_the_leg(self):
        calls = house_calls([7, 11], [(1, 1000, [1]), (1, 1000, [2])])
        self.assertEqual(last(calls + [BEST]), [0, 18, 1, 7, 1, 11, 1])

    def test_legs_may_come_behind_journeys(self):
        told = asked([leg(3), journey(5, 9, [1]), leg(2), journey(7, 9, [2]), BEST])
        self.assertEqual(told, [[0, 1], [0, 1], [0, 2], [0, 2], [0, 29, 1, 3, 1, 2, 1]])


class JourneyTest(unittest.TestCase):
    def test_journeys_are_counted_from_1(self):
        told = asked([leg(1), journey(1, 1, [1]), journey(0, 0, [1]), journey(1000000, 1000, [1])])
        self.assertEqual(told[1:], [[0, 1], [0, 2], [0, 3]])

    def test_the_sixth_journey_is_refused(self):
        told = asked([leg(1)] + [journey(1, 1, [1])] * 7)
        self.assertEqual(told[1:], [[0, 1], [0, 2], [0, 3], [0, 4], [0, 5], [-6], [-6]])

    def test_a_row_of_one_leg_and_of_five(self):
        legs = [leg(9), leg(8), leg(7), leg(6), leg(5)]
        told = asked(legs + [journey(10, 3, [4]), journey(10, 1000, [5, 3, 1, 2, 4]), BEST])
        self.assertEqual(told[5:], [[0, 1], [0, 2], [0, 60, 1, 3, 1, 3, 1]])

    def test_the_journey_goes_over_just_its_legs(self):
        calls = house_calls([1, 2, 4], [(1, 1000, [3, 2]), (1, 1000, [3])])
        self.assertEqual(last(calls + [BEST]), [0, 4, 1, 2, 1, 2, 1])

    def test_the_ranges_of_fare_and_demand(self):
        for paid in (-FAR, -1, 1000001, FAR):
            self.assertEqual(asked([leg(1), journey(paid, 1, [1])])[1], [-2], paid)
        for wanted in (-FAR, -1, 1001, FAR):
            self.assertEqual(asked([leg(1), journey(1, wanted, [1])])[1], [-2], wanted)

    def test_the_range_of_the_legs_numbers(self):
        legs = [leg(1)] * 5
        for number in (-FAR, -1, 0, 6, FAR):
            for row in ([number], [1, number], [number, 2], [1, 2, 3, 4, number]):
                self.assertEqual(last(legs + [journey(1, 1, row)]), [-2], row)

    def test_the_length_of_the_row(self):
        legs = [leg(1)] * 5
        rows = [[], [1, 2, 3, 4, 5, 1], [1] * 6, [FAR] * 7, [1] * 20, list(range(-10, 10))]
        for row in rows:
            told = asked(legs + [journey(1, 1, row), journey(1, 1, [1])])
            self.assertEqual(told[5:], [[-2], [0, 1]], row)

    def test_a_leg_that_is_not_there(self):
        self.assertEqual(asked([journey(1, 1, [1])]), [[-7]])
        for row in ([3], [1, 3], [5, 1, 2]):
            self.assertEqual(last([leg(1), leg(1), journey(1, 1, row)]), [-7], row)

    def test_a_leg_named_twice(self):
        for row in ([1, 1], [1, 2, 1], [2, 3, 1, 3], [3, 3, 3, 3, 3]):
            self.assertEqual(last([leg(1)] * 3 + [journey(1, 1, row)]), [-9], row)

    def test_out_of_range_comes_ahead_of_all(self):
        full = [leg(1)] * 2 + [journey(1, 1, [1])] * 5
        refused = [journey(1000001, 1, [3, 3]), journey(1, -1, [3, 3]), journey(1, 1, [3, 3, 6]), journey(1, 1, []),
                   journey(1, 1, [3] * 6), journey(-1, 1, [1]), journey(1, 1001, [1, 1]), journey(1, 1, [0])]
        self.assertEqual(asked(full + refused)[7:], [[-2]] * 8)

    def test_no_leg_then_twice_then_no_room(self):
        some = [leg(1)] * 2 + [journey(1, 1, [1])] * 4
        full = some + [journey(1, 1, [1])]
        self.assertEqual(last(some + [journey(1, 1, [1, 1, 3])]), [-7])
        self.assertEqual(last(full + [journey(1, 1, [1, 1, 3])]), [-7])
        self.assertEqual(last(full + [journey(1, 1, [3])]), [-7])
        self.assertEqual(last(full + [journey(1, 1, [2, 2])]), [-9])
        self.assertEqual(last(full + [journey(1, 1, [2])]), [-6])


class ChangeTest(unittest.TestCase):
    def test_cap(self):
        told = asked(SMALL_HOUSE + [BEST, cap(1, 7), BEST, cap(2, 2), BEST, cap(1, 0), BEST, BIDS])
        self.assertEqual(told[4:], [[0, 100, 1, 0, 1, 4, 1], [0], [0, 145, 1, 2, 1, 5, 1], [0],
                                    [0, 80, 1, 3, 1, 2, 1], [0], [0, 0, 1, 0, 1, 0, 1], [0, 25, 1, 0, 1]])

    def test_demand(self):
        told = asked(SMALL_HOUSE + [demand(2, 1), BEST, BIDS, demand(1, 1000), BEST, BIDS, demand(2, 0), BEST])
        self.assertEqual(told[4:], [[0], [0, 55, 1, 3, 1, 1, 1], [0, 0, 1, 0, 1], [0],
                                    [0, 55, 1, 3, 1, 1, 1], [0, 10, 1, 0, 1], [0], [0, 40, 1, 4, 1, 0, 1]])

    def test_fare(self):
        told = asked(SMALL_HOUSE + [BIDS, fare(1, 26), BEST, BIDS, fare(2, 1000000), BEST, BIDS, fare(2, 0), BEST])
        self.assertEqual(told[4:], [[0, 25, 1, 0, 1], [0], [0, 103, 1, 3, 1, 1, 1], [0, 25, 1, 0, 1], [0],
                                    [0, 4000000, 1, 0, 1, 4, 1], [0, 1000000, 1, 0, 1], [0],
                                    [0, 78, 1, 3, 1, 1, 1]])

    def test_the_ends_of_the_ranges_are_taken(self):
        calls = [cap(1, 0), cap(2, 1000), demand(1, 0), demand(2, 1000), fare(1, 0), fare(2, 1000000)]
        self.assertEqual(asked(SMALL_HOUSE + calls)[4:], [[0]] * 6)

    def test_out_of_range(self):
        for far in (-FAR, -1, FAR):
            calls = [cap(1, far), cap(far, 1), demand(1, far), demand(far, 1), fare(1, far), fare(far, 1)]
            self.assertEqual(asked(SMALL_HOUSE + calls)[4:], [[-2]] * 6, far)
        calls = [cap(0, 1), cap(6, 1), cap(1, 1001), demand(0, 1), demand(6, 1), demand(1, 1001),
                 fare(0, 1), fare(6, 1), fare(1, 1000001)]
        self.assertEqual(asked(SMALL_HOUSE + calls)[4:], [[-2]] * 9)

    def test_no_such_leg_and_no_such_journey(self):
        for number in (3, 5):
            told = asked(SMALL_HOUSE + [cap(number, 1), demand(number, 1), fare(number, 1)])
            self.assertEqual(told[4:], [[-7], [-3], [-3]])
        self.assertEqual(asked([cap(1, 1), demand(1, 1), fare(1, 1)]), [[-7], [-3], [-3]])

    def test_legs_and_journeys_are_not_taken_for_one_another(self):
        told = asked([leg(1), leg(1), journey(1, 1, [1]), cap(2, 1), demand(2, 1), fare(2, 1)])
        self.assertEqual(told[3:], [[0], [-3], [-3]])
        told = asked([leg(1), journey(1, 1, [1]), journey(1, 1, [1]), cap(2, 1), demand(2, 1), fare(2, 1)])
        self.assertEqual(told[3:], [[-7], [0], [0]])

    def test_out_of_range_comes_ahead_of_not_there(self):
        calls = [cap(3, 1001), cap(5, -1), demand(3, 1001), demand(5, -1), fare(3, 1000001), fare(5, -1)]
        self.assertEqual(asked(SMALL_HOUSE + calls)[4:], [[-2]] * 6)

    def test_each_one_of_five_is_changed_alone(self):
        five = house_calls([10] * 5, [(1, 1000, [k]) for k in range(1, 6)])
        for number in range(1, 6):
            seats = [3 if k == number else 10 for k in range(1, 6)]
            fractions = [part for one in seats for part in (one, 1)]
            self.assertEqual(last(five + [cap(number, 3), BEST]), [0, 43, 1] + fractions)
            self.assertEqual(last(five + [demand(number, 3), BEST]), [0, 43, 1] + fractions)
            self.assertEqual(last(five + [fare(number, 4), BEST]), [0, 80, 1] + [10, 1] * 5)
            prices = [part for k in range(1, 6) for part in (4 if k == number else 1, 1)]
            self.assertEqual(last(five + [fare(number, 4), BIDS]), [0] + prices)


class RefusedTest(unittest.TestCase):
    def test_a_refusal_changes_nothing(self):
        refused = [leg(-1), leg(1001), journey(1, 1, []), journey(-1, 1, [1]), journey(1, 1001, [1]),
                   journey(1, 1, [1, 6]), journey(1, 1, [1, 3]), journey(1, 1, [2, 2]), journey(1, 1, [1] * 20),
                   cap(1, 1001), cap(3, 9), cap(0, 9), cap(-1, 9), demand(1, -1), demand(3, 9), demand(0, 9),
                   fare(1, 1000001), fare(3, 9), fare(0, 9), fare(-2, 9)]
        before = asked(SMALL_HOUSE + [BEST, BIDS])[4:]
        for call in refused:
            told = asked(SMALL_HOUSE + [call, BEST, BIDS, leg(1), journey(1, 1, [3])])
            self.assertLess(told[4][0], 0, call)
            self.assertEqual(len(told[4]), 1, call)
            self.assertEqual(told[5:], before + [[0, 3], [0, 3]], call)

    def test_what_a_full_house_refuses_changes_nothing(self):
        full = house_calls([3, 4, 5, 6, 7], [(2, 9, [k]) for k in range(1, 6)])
        before = asked(full + [BEST, BIDS])[10:]
        told = asked(full + [leg(9), journey(9, 9, [1]), BEST, BIDS])
        self.assertEqual(told[10:], [[-6], [-6]] + before)
