"""The interface: how calls stand in the one list, and how answers are given back."""

import contextlib
import inspect
import io
import unittest

from seatnetwork import house
from seatnetwork.house import answers
from tests.helper import asked, cap, demand, fare, journey, leg

ORDINARY = [0, 10, 0, 5, 1, 100, 20, 1, 1, 1, 150, 3, 2, 2, 1, 5, 6, 2, 1, 4, 3, 2, 9, 4, 1, 90, 5, 6]
ORDINARY_ANSWERS = [2, 0, 1, 2, 0, 2, 2, 0, 1, 2, 0, 2, 7, 0, 1150, 1, 7, 1, 3, 1, 5, 0, 100, 1, 0, 1,
                    1, 0, 1, 0, 1, 0, 7, 0, 600, 1, 0, 1, 4, 1, 5, 0, 150, 1, 0, 1]


class InterfaceTest(unittest.TestCase):
    def test_the_count_stands_before_each_answer(self):
        self.assertEqual(answers(ORDINARY), ORDINARY_ANSWERS)

    def test_one_call(self):
        self.assertEqual(answers([5]), [3, 0, 0, 1])
        self.assertEqual(answers([6]), [1, 0])
        self.assertEqual(answers([0, 7]), [2, 0, 1])
        self.assertEqual(answers([0, -7]), [1, -2])
        self.assertEqual(answers([1, 0, 0, 0]), [1, -2])
        self.assertEqual(answers([2, 1, 1]), [1, -7])
        self.assertEqual(answers([3, 1, 1]), [1, -3])
        self.assertEqual(answers([4, 1, 1]), [1, -3])

    def test_the_argument_is_named_calls(self):
        self.assertEqual(list(inspect.signature(answers).parameters), ["calls"])

    def test_refused_rows_are_read_to_their_end(self):
        for length in range(21):
            row = [5] * length
            told = asked([leg(1), journey(1, 1, row), leg(2), journey(1, 1, [2, 1])])
            refusal = -7 if 1 <= length <= 5 else -2
            self.assertEqual(told, [[0, 1], [refusal], [0, 2], [0, 1]], length)

    def test_sixty_calls(self):
        self.assertEqual(answers([5] * 60), [3, 0, 0, 1] * 60)
        full = [leg(1)] * 5 + [journey(2, 5, [k for k in range(1, 6) if k != out]) for out in range(1, 6)]
        told = asked(full + [(5,), (6,)] * 25)
        self.assertEqual(len(told), 60)
        self.assertEqual(told[10:], [[0, 5, 2] + [1, 4] * 5, [0] + [1, 2] * 5] * 25)
        far = 1000000000000
        refused = [journey(far, -far, [far] * 20)] * 12 + [leg(far)] * 12 + [cap(far, far)] * 12
        refused = refused + [demand(-far, far)] * 12 + [fare(-far, -far)] * 12
        self.assertEqual(asked(refused), [[-2]] * 60)

    def test_what_is_handed_in_is_not_changed(self):
        calls = list(ORDINARY)
        answers(calls)
        self.assertEqual(calls, ORDINARY)

    def test_nothing_is_kept(self):
        self.assertEqual(answers(ORDINARY), answers(ORDINARY))
        self.assertEqual(answers([5, 6, 0, 3]), [3, 0, 0, 1, 1, 0, 2, 0, 1])

    def test_what_is_given_back_is_a_new_list_of_whole_numbers(self):
        first = answers(ORDINARY)
        self.assertIs(type(first), list)
        self.assertEqual({type(number) for number in first}, {int})
        first.clear()
        self.assertEqual(answers(ORDINARY), ORDINARY_ANSWERS)

    def test_nothing_is_printed(self):
        out = io.StringIO()
        with contextlib.redirect_stdout(out), contextlib.redirect_stderr(out):
            house.answers(ORDINARY + [0, -1, 1, 1, 1, 0])
        self.assertEqual(out.getvalue(), "")
