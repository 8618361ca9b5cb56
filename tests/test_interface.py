"""The interface: how calls stand in the one list, and how answers are given back."""

import contextlib
import inspect
import io
import unittest

from seatnetwork import house
from seatnetwork.house import answers
from tests.helper import (BEST, BIDS, CLEAR, LINE, SHOWN, WHOLE, Sequence, SlowHouse, accept, asked, cap, demand, fare,
                          feasible, gain, journey, leg)

ORDINARY = [0, 10, 0, 5, 1, 100, 20, 1, 1, 1, 150, 3, 2, 2, 1, 5, 6, 2, 1, 4, 3, 2, 9, 4, 1, 90, 5, 6]
ORDINARY_ANSWERS = [2, 0, 1, 2, 0, 2, 2, 0, 1, 2, 0, 2, 7, 0, 1150, 1, 7, 1, 3, 1, 5, 0, 100, 1, 0, 1,
                    1, 0, 1, 0, 1, 0, 7, 0, 600, 1, 0, 1, 4, 1, 5, 0, 150, 1, 0, 1]

# all fourteen calls, some refused
ALL = [0, 10, 0, 5, 1, 100, 20, 1, 1, 1, 150, 3, 2, 2, 1, 7, 1, 7, 3, 8, 1, 8, 3, 9, 10, 2, 7, 3, 10, 1, 7, 11, 13,
       2, 1, 4, 3, 2, 9, 4, 1, 90, 5, 6, 7, 1, 8, 1, 9, 10, 2, 0, 5, 10, 6, 0, 0, 0, 0, 0, 0, 12, 13, 9, 0, 8, 13]
ALL_ANSWERS = [2, 0, 1, 2, 0, 2, 2, 0, 1, 2, 0, 2, 2, 0, 1, 1, -3, 3, 0, 100, 1, 1, -7, 4, 0, 1150, 7, 3,
               3, 0, 1, 1150, 1, -10, 2, 0, 1, 13, 0, 2, 10, 5, 100, 20, 1, 1, 150, 3, 2, 2, 1,
               1, 0, 1, 0, 1, 0, 7, 0, 600, 1, 0, 1, 4, 1, 5, 0, 150, 1, 0, 1, 2, 0, 0, 3, 0, 150, 1, 4, 0, 600, 0, 4,
               3, 0, 0, 750, 1, -2, 1, 0, 2, 0, 0, 2, 0, 0, 2, 0, 1, 3, 0, 1, 8]

FAR = 1000000000000


class Unchanged(list):
    """A list that fails where it is changed."""

    def fail(self, *given):
        raise AssertionError("what is handed in was changed")

    append = extend = insert = pop = remove = clear = sort = reverse = fail
    __setitem__ = __delitem__ = __iadd__ = __imul__ = fail


class InterfaceTest(unittest.TestCase):
    def test_the_count_stands_before_each_answer(self):
        self.assertEqual(answers(ORDINARY), ORDINARY_ANSWERS)
        self.assertEqual(answers(ALL), ALL_ANSWERS)

    def test_one_call(self):
        self.assertEqual(answers([5]), [3, 0, 0, 1])
        self.assertEqual(answers([6]), [1, 0])
        self.assertEqual(answers([0, 7]), [2, 0, 1])
        self.assertEqual(answers([0, -7]), [1, -2])
        self.assertEqual(answers([1, 0, 0, 0]), [1, -2])
        self.assertEqual(answers([2, 1, 1]), [1, -7])
        self.assertEqual(answers([3, 1, 1]), [1, -3])
        self.assertEqual(answers([4, 1, 1]), [1, -3])
        self.assertEqual(answers([7, 1]), [1, -3])
        self.assertEqual(answers([8, 1]), [1, -7])
        self.assertEqual(answers([9]), [2, 0, 0])
        self.assertEqual(answers([10, 0]), [3, 0, 1, 0])
        self.assertEqual(answers([10, 1, 0]), [1, -10])
        self.assertEqual(answers([11]), [2, 0, 1])
        self.assertEqual(answers([12]), [1, 0])
        self.assertEqual(answers([13]), [2, 0, 0])

    def test_the_argument_is_named_calls(self):
        self.assertEqual(list(inspect.signature(answers).parameters), ["calls"])

    def test_refused_rows_are_read_to_their_end(self):
        for length in range(21):
            row = [5] * length
            told = asked([leg(1), journey(1, 1, row), leg(2), journey(1, 1, [2, 1])])
            refusal = -7 if 1 <= length <= 5 else -2
            self.assertEqual(told, [[0, 1], [refusal], [0, 2], [0, 1]], length)
            told = asked([leg(1), feasible(row), SHOWN, feasible([])])
            answer = [-2] if length > 5 else [-10] if length > 0 else [0, 1, 0]
            self.assertEqual(told, [[0, 1], answer, [0, 1, 1], [0, 1, 0]], length)

    def test_sixty_calls(self):
        self.assertEqual(answers([5] * 60), [3, 0, 0, 1] * 60)
        full = [leg(1)] * 5 + [journey(2, 5, [k for k in range(1, 6) if k != out]) for out in range(1, 6)]
        asks = [BEST, BIDS, accept(1), gain(1), WHOLE, feasible([1, 0, 0, 0, 0]), LINE, SHOWN]
        told = asked(full + asks * 6 + [CLEAR] * 2)
        self.assertEqual(len(told), 60)
        shown = [0, 5] + [1] * 5 + [number for call in full[5:] for number in call[1:]]
        self.assertEqual(told[10:], [[0, 5, 2] + [1, 4] * 5, [0] + [1, 2] * 5, [0, 1], [0, 1, 6], [0, 2, 1, 0, 0, 0, 0],
                                     [0, 1, 2], [0, 0], shown] * 6 + [[0]] * 2)

    def test_sixty_refused_calls(self):
        refused = [journey(FAR, -FAR, [FAR] * 20), leg(FAR), cap(FAR, FAR), demand(-FAR, FAR), fare(-FAR, -FAR),
                   accept(FAR), accept(-FAR), gain(FAR), gain(-FAR), feasible([FAR] * 20), feasible([-FAR]),
                   feasible([0] * 20)]
        self.assertEqual(asked(refused * 5), [[-2]] * 60)

    def test_what_is_handed_in_is_not_changed(self):
        for handed in (ORDINARY, ALL):
            calls = list(handed)
            answers(calls)
            self.assertEqual(calls, handed)

    def test_it_is_not_changed_for_a_while_either(self):
        for handed in (ORDINARY, ALL):
            self.assertEqual(answers(Unchanged(handed)), answers(handed))

    def test_nothing_is_kept(self):
        self.assertEqual(answers(ORDINARY), answers(ORDINARY))
        self.assertEqual(answers([5, 6, 0, 3]), [3, 0, 0, 1, 1, 0, 2, 0, 1])
        open_end = ALL[:ALL.index(12)]
        first = answers(open_end)
        self.assertEqual(answers(open_end), first)
        self.assertEqual(answers([13, 9, 11, 7, 1, 8, 1]), [2, 0, 0, 2, 0, 0, 2, 0, 1, 1, -3, 1, -7])

    def test_what_is_given_back_is_a_new_list_of_whole_numbers(self):
        for handed, told in ((ORDINARY, ORDINARY_ANSWERS), (ALL, ALL_ANSWERS)):
            first = answers(handed)
            self.assertIs(type(first), list)
            self.assertEqual({type(number) for number in first}, {int})
            first.clear()
            self.assertEqual(answers(handed), told)

    def test_nothing_is_printed(self):
        out = io.StringIO()
        with contextlib.redirect_stdout(out), contextlib.redirect_stderr(out):
            house.answers(ORDINARY + [0, -1, 1, 1, 1, 0] + ALL)
        self.assertEqual(out.getvalue(), "")


class MixedCallsTest(unittest.TestCase):
    """Lists of sixty calls of all fourteen places, compared with a second house."""

    def call(self, sequence):
        number = sequence.choice((1, 1, 2, 2, 3, 4, 5, 0, 6))
        seats = sequence.choice((0, 1, 2, 3, 4, 5, 30, 1000, 1001, -1))
        paid = sequence.choice((0, 10, 10, 11, 12, 20, 25, 1000000, 1000001))
        way = sequence.some(range(1, 4), sequence.choice((1, 2, 2, 3, 0)))
        way = sequence.choice((way, way, way, way, way + [1], way + [FAR], way * 3, [4, 5]))
        row = [sequence.choice((0, 0, 1, 1, 2, 3)) for k in range(sequence.choice((3, 3, 4, 4, 5, 0)))]
        row = sequence.choice((row, row, row, row, row + [1001], [-FAR] + row, row * 4))
        calls = (leg(seats), journey(paid, abs(seats), way), cap(number, seats), demand(number, seats),
                 fare(number, paid), BEST, BIDS, accept(number), gain(number), WHOLE, feasible(row), LINE, SHOWN)
        return sequence.choice(calls) if sequence.below(60) else CLEAR

    def calls(self, sequence, seats):
        first = [leg(sequence.choice(seats)) for k in range(3)]
        first += [journey(10 + k, sequence.choice(seats), sequence.some(range(1, 4), 2)) for k in range(3)]
        rest = [self.call(sequence) for k in range(54)]
        # a leg or a journey more makes the second house slow, so that some of these are left out
        return first + [one if one[0] > 1 or sequence.below(2) == 0 else SHOWN for one in rest]

    def test_mixed_calls(self):
        sequence = Sequence(51)
        seen = set()
        for k in range(40):
            calls = self.calls(sequence, (26, 27, 28) if k % 5 == 0 else (1, 2, 3))
            second = SlowHouse()
            for call, told in zip(calls, asked(calls), strict=True):
                self.assertEqual(told, second.answer(call), (calls, call))
                seen.add((call[0], min(told[0], 0)))
        self.assertEqual({place for place, first in seen}, set(range(14)))
        self.assertEqual({first for place, first in seen}, {0, -2, -3, -6, -7, -8, -9, -10})
