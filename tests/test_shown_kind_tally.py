"""Promises 19 to 21: shown, kind, tally."""

import unittest

from tests.helpers import TableCase

TOO_BIG = 10 ** 18


class Shown(TableCase):
    def test_no_kinds(self):
        self.tells([0], "shown")

    def test_nothing_raised(self):
        self.kind(delay=9)
        self.do("on", 0)
        self.tells([0], "shown")

    def test_four_numbers_of_each(self):
        self.kind(rank=1, latching=1, escalate=1)
        self.do("on", 0)
        self.tells([1, 0, 1, 0, 1], "shown")
        self.do("tick", 1)
        self.tells([1, 0, 2, 0, 1], "shown")
        self.do("ack", 0)
        self.tells([1, 0, 2, 1, 1], "shown")
        self.do("off", 0)
        self.tells([1, 0, 2, 1, 0], "shown")
        self.do("reset", 0)
        self.tells([0], "shown")

    def test_not_acknowledged_then_rank_then_raised_first(self):
        for rank in (1, 3, 1, 0, 3, 0, 1):
            self.kind(rank=rank)
        for k in (5, 6, 4, 3, 2, 1, 0):
            self.do("on", k)
        self.assertEqual(self.do("shown")[1::4], [4, 1, 6, 2, 0, 5, 3])
        for k in (1, 4, 6, 3):
            self.do("ack", k)
        self.tells([7, 2, 1, 0, 1, 0, 1, 0, 1, 5, 0, 0, 1, 4, 3, 1, 1, 1, 3, 1, 1, 6, 1, 1, 1, 3, 0, 1, 1], "shown")

    def test_rank_now_not_that_of_the_definition(self):
        self.kind(rank=1)
        self.kind(rank=0, escalate=1)
        self.do("sense", 0b11)
        self.tells([2, 0, 1, 0, 1, 1, 0, 0, 1], "shown")
        self.do("tick", 1)
        self.tells([2, 0, 1, 0, 1, 1, 1, 0, 1], "shown")
        self.do("tick", 1)
        self.tells([2, 1, 2, 0, 1, 0, 1, 0, 1], "shown")

    def test_raised_again_comes_behind_those_alike(self):
        for k in range(3):
            self.kind(rank=2)
        self.do("sense", 0b111)
        self.do("off", 0)
        self.do("on", 0)
        self.assertEqual(self.do("shown")[1::4], [1, 2, 0])
        self.do("renew")
        self.assertEqual(self.do("shown")[1::4], [1, 2, 0])

    def test_all_32_kinds(self):
        for k in range(32):
            self.kind(rank=k % 2)
        for k in range(31, -1, -1):
            self.do("on", k)
        shown = self.do("shown")
        self.assertEqual((shown[0], len(shown)), (32, 129))
        self.assertEqual(shown[1::4], list(range(31, 0, -2)) + list(range(30, -1, -2)))


class KindCall(TableCase):
    def test_new(self):
        self.do("define", 2, 1, 3600, 3599, 3598, 65535)
        self.tells([2, 1, 3600, 3599, 3598, 65535] + [0] * 8, "kind", 0)

    def test_out_of_range(self):
        self.refused(-1, "kind", 0)
        self.kind()
        self.kind()
        for wrong in (-1, 2, 32, TOO_BIG, -TOO_BIG):
            self.refused(-1, "kind", wrong)
        self.tells([0] * 14, "kind", 1)

    def test_seconds_held(self):
        self.kind(delay=10)
        self.do("on", 0)
        self.do("tick", 9)
        self.tells([0, 0, 10, 0, 0, 0, 1, 9, 0, 0, 0, 0, 0, 0], "kind", 0)
        self.do("tick", 1)
        self.tells([0, 0, 10, 0, 0, 0, 1, 0, 0, 1, 0, 0, 0, 0], "kind", 0)

    def test_held_no_more_when_the_condition_is_over(self):
        self.kind(delay=10)
        self.do("on", 0)
        self.do("tick", 9)
        self.do("off", 0)
        self.tells([0, 0, 10] + [0] * 11, "kind", 0)

    def test_very_second_at_which_a_shelving_ends(self):
        self.kind(rank=1, delay=2)
        self.do("clock", 100)
        self.do("shelve", 0, 3)
        self.do("on", 0)
        seen = []
        for second in range(6):
            seen.append(self.do("kind", 0)[6:])
            self.do("tick", 1)
        self.assertEqual(seen, [[1, 0, 3, 0, 0, 0, 0, 0], [1, 0, 2, 0, 0, 0, 0, 0], [1, 0, 1, 0, 0, 0, 0, 0],
                                [1, 0, 0, 0, 0, 0, 0, 0], [1, 1, 0, 0, 0, 0, 0, 0], [1, 0, 0, 1, 1, 0, 0, 0]])

    def test_no_seconds_left_of_a_shelving_long_over(self):
        self.kind()
        self.do("shelve", 0, 5)
        self.do("clock", 5)
        self.tells([0] * 14, "kind", 0)
        self.do("clock", 500)
        self.tells([0] * 14, "kind", 0)

    def test_unshelved(self):
        self.kind(rank=1)
        self.do("clock", 7)
        self.do("shelve", 0, 5)
        self.tells([1, 0, 0, 0, 0, 0, 0, 0, 5, 0, 0, 0, 0, 0], "kind", 0)
        self.do("unshelve", 0)
        self.tells([1] + [0] * 13, "kind", 0)

    def test_raised_graver_acknowledged(self):
        self.kind()
        self.kind(rank=1, latching=1, escalate=4, again=6, stops=3)
        self.do("on", 0)
        self.do("on", 1)
        self.do("tick", 3)
        self.tells([1, 1, 0, 4, 6, 3, 1, 0, 0, 1, 1, 0, 3, 1], "kind", 1)
        self.do("tick", 1)
        self.tells([1, 1, 0, 4, 6, 3, 1, 0, 0, 1, 2, 0, 0, 1], "kind", 1)
        self.do("tick", 1)
        self.do("ack", 1)
        self.tells([1, 1, 0, 4, 6, 3, 1, 0, 0, 1, 2, 1, 0, 1], "kind", 1)
        self.do("tick", 5)
        self.tells([1, 1, 0, 4, 6, 3, 1, 0, 0, 1, 2, 1, 5, 1], "kind", 1)
        self.do("off", 1)
        self.tells([1, 1, 0, 4, 6, 3, 0, 0, 0, 1, 2, 1, 5, 1], "kind", 1)

    def test_reset_and_raised_again(self):
        self.kind(rank=1, latching=1, escalate=2)
        self.do("on", 0)
        self.do("tick", 3)
        self.do("off", 0)
        self.do("ack", 0)
        self.do("reset", 0)
        self.tells([1, 1, 0, 2, 0, 0] + [0] * 8, "kind", 0)
        self.do("on", 0)
        self.tells([1, 1, 0, 2, 0, 0, 1, 0, 0, 1, 1, 0, 0, 4], "kind", 0)

    def test_gone_by_itself(self):
        self.kind(rank=3, again=9)
        self.do("on", 0)
        self.do("ack", 0)
        self.do("tick", 2)
        self.do("off", 0)
        self.tells([3, 0, 0, 0, 9, 0] + [0] * 8, "kind", 0)

    def test_all_32_kinds(self):
        for k in range(32):
            self.kind(rank=k % 4, stops=k)
        self.do("on", 31)
        self.tells([3, 0, 0, 0, 0, 31, 1, 0, 0, 1, 3, 0, 0, 0], "kind", 31)
        self.tells([2, 0, 0, 0, 0, 30] + [0] * 8, "kind", 30)
        self.refused(-1, "kind", 32)


class Tally(TableCase):
    def test_no_kinds(self):
        self.tells([0, 0, 0, 0, 0], "tally")

    def test_nothing_raised(self):
        self.kind(delay=1)
        self.do("on", 0)
        self.tells([0, 0, 0, 0, 0], "tally")

    def test_ranks_now_and_those_not_acknowledged(self):
        for rank in (0, 1, 1, 2, 3, 3, 3):
            self.kind(rank=rank, latching=1)
        self.do("sense", 0b1111111)
        self.tells([1, 2, 1, 3, 7], "tally")
        self.do("ack", 5)
        self.do("ackTo", 1)
        self.tells([1, 2, 1, 3, 3], "tally")
        self.do("sense", 0)
        self.do("resetAll")
        self.tells([0, 0, 1, 2, 3], "tally")

    def test_rank_that_grew(self):
        self.kind(rank=0, escalate=1)
        self.do("on", 0)
        for wanted in ([0, 1, 0, 0, 1], [0, 0, 1, 0, 1], [0, 0, 0, 1, 1], [0, 0, 0, 1, 1]):
            self.do("tick", 1)
            self.tells(wanted, "tally")

    def test_silence_does_not_matter(self):
        self.kind(rank=2)
        self.do("on", 0)
        self.do("silence", 9)
        self.tells([0, 0, 1, 0, 1], "tally")

    def test_all_32_kinds(self):
        for k in range(32):
            self.kind(rank=min(3, k // 5))
        self.do("sense", 2 ** 32 - 1)
        self.tells([5, 5, 5, 17, 32], "tally")
        self.do("ackTo", 3)
        self.tells([5, 5, 5, 17, 0], "tally")


if __name__ == "__main__":
    unittest.main()
