"""The interface: one list of calls in, one list of answers out, and nothing kept between."""

import inspect
import time
import unittest

from alarmtable.table import answers

CALLS = [0, 1, 1, 0, 0, 0, 3] + [0, 0, 1, 0, 0, 0, 4] + [1, 0, 1] + [3, 0] + [5, 3] + [8, 3] + [5, 0] + [10, 1] + [11]
GIVEN = [1, 0] + [1, 1] + [1, 1] + [1, 2] + [1, 1] + [1, 2] + [1, 0] + [1, -9] + [3, 2, 0, 1]

ASKED = [15, 16, 17, 18, 19, 0, 20, 21, 22, 0, 1, 23, 1, 24, 25, 0, 26, 0, 27, 28]


def not_allowed(*given):
    raise AssertionError("the list handed in was changed")


class Fixed(list):
    """A list that can be read alone."""
    append = extend = insert = pop = remove = clear = sort = reverse = not_allowed
    __setitem__ = __delitem__ = __iadd__ = __imul__ = not_allowed


class Answers(unittest.TestCase):
    def test_each_answer_behind_its_length(self):
        self.assertEqual(answers(CALLS), GIVEN)

    def test_name_of_the_argument(self):
        self.assertEqual(list(inspect.signature(answers).parameters), ["calls"])

    def test_refusal_is_one_number(self):
        self.assertEqual(answers([11, 3, 0, 14, -1]), [1, 0, 1, -1, 1, -1])

    def test_list_handed_in_stays(self):
        calls = CALLS + ASKED + [3, 1] + ASKED
        copy = list(calls)
        given = answers(calls)
        self.assertEqual(calls, copy)
        given.clear()
        self.assertEqual(calls, copy)

    def test_list_handed_in_is_not_changed_for_a_while_either(self):
        self.assertEqual(answers(Fixed(CALLS + ASKED)), answers(CALLS + ASKED))

    def test_two_times_do_not_touch_each_other(self):
        once = answers(CALLS)
        once.append(5)
        self.assertEqual(answers([3, 0, 6, 1]), [1, -1, 1, 0])
        self.assertEqual(answers(CALLS), GIVEN)
        self.assertEqual(answers([14, 1000000000]), [1, 1000000000])
        self.assertEqual(answers([14, 5]), [1, 5])

    def test_every_call_of_those_that_ask(self):
        calls = [16, 17, 18, 19, 0, 20, 21, 22, 0, 1, 23, 1, 24, 25, 1, 26, 2, 27, 28, 15, 27, 28]
        raised = [0, 2, 1, 0, 0, 0, 3] + [0, 0, 1, 0, 0, 0, 4] + [1, 0, 1] + [5, 3] + [7, 0] + [9, 30]
        self.assertEqual(answers(raised + calls), [1, 0] + [1, 1] + [1, 1] + [1, 2] + [1, 1] + [1, 0] + [
            1, 0,
            1, 7,
            9, 2, 1, 0, 0, 1, 0, 2, 1, 1,
            14, 2, 1, 0, 0, 0, 3, 1, 0, 0, 1, 2, 1, 0, 0,
            5, 1, 0, 1, 0, 1,
            1, 1,
            1, 1,
            2, 1, 0,
            3, 2, 0, 1,
            4, 1, 1, 1, 0,
            6, 1, 2, 0, 0, 3, 2,
            1, 0,
            4, 0, 3, 30, 0,
            1, 2,
            9, 2, 0, 0, 2, 1, 1, 1, 0, 0,
            4, 0, 2, 30, 0])

    def test_asked_of_a_new_table(self):
        self.assertEqual(answers([15, 16, 17, 18, 19, 0, 20, 21, 22, 0, 0, 23, 0, 24, 25, 0, 26, 0, 27, 28]), [
            1, 0, 1, 0, 1, 0, 1, 0, 1, -1, 5, 0, 0, 0, 0, 0, 1, 0, 1, -1, 1, -1, 1, 0, 1, -1, 1, 0, 1, 0,
            4, 0, 0, 0, 0])

    def test_nothing_is_kept_of_papers_and_first(self):
        line = [0, 0, 0, 0, 0, 0, 5] + [3, 0, 4, 0] * 40 + [3, 0, 9, 7, 28, 27, 21, 17]
        once = answers(line)
        self.assertEqual(once[-15:], [4, 0, 81, 7, 0, 5, 1, 0, 16, 0, 0, 1, 1, 1, 5])
        self.assertEqual(answers([28, 27, 21, 17, 26, 0]), [4, 0, 0, 0, 0, 1, 0, 1, 0, 1, 0, 1, 0])
        self.assertEqual(answers(line), once)

    def test_whole_numbers_alone(self):
        given = answers(CALLS + ASKED + [3, 0] + ASKED + [9, 5, 7, 0, 7, 0, 4, 0] + ASKED
                        + [12, 0, 9, 13, 0, 2, 0, 1, 2, 0, 1, 14, 3])
        self.assertIs(type(given), list)
        self.assertEqual({type(number) for number in given}, {int})

    def test_greatest_and_least_numbers(self):
        widths = (6, 2, 2, 1, 1, 1, 1, 1, 1, 1, 1, 0, 2, 1, 1, 0, 0, 0, 0, 1, 0, 0, 2, 1, 0, 1, 1, 0, 0)
        for far in (10 ** 18, -10 ** 18):
            for begun in ([], [0, 0, 1, 0, 0, 0, 3] * 32 + [5, 2 ** 32 - 1]):
                calls, ends = list(begun), []
                for place, width in enumerate(widths):
                    if width:
                        calls += [place] + [far] * width
                        ends += [1, -1]
                self.assertEqual(answers(calls)[-len(ends):], ends)
                self.assertEqual(len(ends), 2 * 19)

    def test_a_thousand_calls_with_long_ticks(self):
        calls = [0, 0, 1, 3600, 3600, 3600, 0] * 32 + [5, 2 ** 32 - 1] + [6, 3600] * 900 + [8, 3] * 67
        begun = time.monotonic()
        given = answers(calls)
        self.assertLess(time.monotonic() - begun, 10)
        self.assertEqual(len(given), 2000)
        self.assertEqual(given[66:76], [1, 32] * 4 + [1, 0])

    def test_a_thousand_calls_that_ask_for_much(self):
        kinds = [0, 0, 1, 0, 0, 0, 1] * 32
        links = [number for b in range(31) for a in range(b + 1, 32) for number in (1, a, b)]
        round_of_calls = [5, 2 ** 32 - 1, 5, 0, 8, 3, 24, 18, 26, 0, 27, 23, 0, 25, 0, 11, 15]
        begun = time.monotonic()
        given = answers(kinds + links + round_of_calls * 42)
        self.assertLess(time.monotonic() - begun, 10)
        self.assertEqual(given[-36:], [33, 32] + list(range(31, -1, -1)) + [1, 0])


if __name__ == "__main__":
    unittest.main()
