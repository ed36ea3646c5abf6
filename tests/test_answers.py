"""The interface: one list of calls in, one list of answers out, and nothing kept between."""

import inspect
import time
import unittest

from alarmtable.table import answers

CALLS = [0, 1, 1, 0, 0, 0, 3] + [0, 0, 1, 0, 0, 0, 4] + [1, 0, 1] + [3, 0] + [5, 3] + [8, 3] + [5, 0] + [10, 1] + [11]
GIVEN = [1, 0] + [1, 1] + [1, 1] + [1, 2] + [1, 1] + [1, 2] + [1, 0] + [1, -9] + [3, 2, 0, 1]


class Answers(unittest.TestCase):
    def test_each_answer_behind_its_length(self):
        self.assertEqual(answers(CALLS), GIVEN)

    def test_name_of_the_argument(self):
        self.assertEqual(list(inspect.signature(answers).parameters), ["calls"])

    def test_refusal_is_one_number(self):
        self.assertEqual(answers([11, 3, 0, 14, -1]), [1, 0, 1, -1, 1, -1])

    def test_list_handed_in_stays(self):
        calls = list(CALLS)
        given = answers(calls)
        self.assertEqual(calls, CALLS)
        given.clear()
        self.assertEqual(calls, CALLS)

    def test_two_times_do_not_touch_each_other(self):
        once = answers(CALLS)
        once.append(5)
        self.assertEqual(answers([3, 0, 6, 1]), [1, -1, 1, 0])
        self.assertEqual(answers(CALLS), GIVEN)
        self.assertEqual(answers([14, 1000000000]), [1, 1000000000])
        self.assertEqual(answers([14, 5]), [1, 5])

    def test_whole_numbers_alone(self):
        given = answers(CALLS + [3, 0, 9, 5, 7, 0, 7, 0, 4, 0, 12, 0, 9, 13, 0, 2, 0, 1, 2, 0, 1])
        self.assertIs(type(given), list)
        self.assertEqual({type(number) for number in given}, {int})

    def test_greatest_and_least_numbers(self):
        for far in (10 ** 18, -10 ** 18):
            calls = []
            for place, width in enumerate((6, 2, 2, 1, 1, 1, 1, 1, 1, 1, 1, 0, 2, 1, 1)):
                if width:
                    calls += [place] + [far] * width
            self.assertEqual(answers(calls), [1, -1] * 14)

    def test_a_thousand_calls_with_long_ticks(self):
        calls = [0, 0, 1, 3600, 3600, 3600, 0] * 32 + [5, 2 ** 32 - 1] + [6, 3600] * 900 + [8, 3] * 67
        begun = time.monotonic()
        given = answers(calls)
        self.assertLess(time.monotonic() - begun, 10)
        self.assertEqual(len(given), 2000)
        self.assertEqual(given[66:76], [1, 32] * 4 + [1, 0])


if __name__ == "__main__":
    unittest.main()
