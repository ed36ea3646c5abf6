"""Promises 27 to 29: log, base, time."""

import unittest

from tests.helpers import TableCase

TOO_BIG = 10 ** 18
MOST = 1000000


class LogCall(TableCase):
    def numbers(self, n):
        told = self.do("log", n)
        self.assertEqual(len(told), 1 + 5 * told[0])
        return told[1::5]

    def test_no_kinds(self):
        self.tells([0], "log", 0)
        self.tells([0], "log", 1)
        self.tells([0], "log", MOST)

    def test_out_of_range(self):
        self.kind()
        self.do("on", 0)
        for wrong in (-1, MOST + 1, TOO_BIG, -TOO_BIG):
            self.refused(-1, "log", wrong)

    def test_every_sort_of_event(self):
        self.kind(rank=1, latching=1, escalate=2, again=3)
        self.kind(rank=3)
        self.do("clock", 10)
        self.do("on", 0)
        self.do("tick", 2)
        self.do("ack", 0)
        self.do("tick", 3)
        self.do("on", 1)
        self.do("off", 1)
        self.do("off", 0)
        self.do("ack", 0)
        self.do("reset", 0)
        self.tells([8, 0, 10, 0, 0, 1, 1, 12, 0, 1, 2, 2, 12, 0, 3, 2, 3, 15, 0, 2, 2,
                    4, 15, 1, 0, 3, 5, 15, 1, 4, 3, 6, 15, 0, 3, 2, 7, 15, 0, 5, 2], "log", 0)
        self.tells([2, 6, 15, 0, 3, 2, 7, 15, 0, 5, 2], "log", 6)

    def test_from_a_number(self):
        self.kind()
        self.fill_paper(0, 10)
        self.assertEqual(self.numbers(0), list(range(10)))
        self.assertEqual(self.numbers(1), list(range(1, 10)))
        self.assertEqual(self.numbers(9), [9])
        self.assertEqual(self.numbers(10), [])
        self.assertEqual(self.numbers(11), [])
        self.assertEqual(self.numbers(MOST), [])

    def test_just_64_and_more(self):
        self.kind()
        self.fill_paper(0, 63)
        self.assertEqual(self.numbers(0), list(range(63)))
        self.fill_paper(0, 64)
        self.assertEqual(self.numbers(0), list(range(64)))
        self.fill_paper(0, 65)
        self.assertEqual(self.numbers(0), list(range(1, 65)))
        self.fill_paper(0, 200)
        self.assertEqual(self.numbers(0), list(range(136, 200)))
        self.assertEqual(self.numbers(135), list(range(136, 200)))
        self.assertEqual(self.numbers(137), list(range(137, 200)))
        self.assertEqual(self.numbers(199), [199])
        self.assertEqual(self.numbers(200), [])

    def test_at_the_papers_end(self):
        self.kind()
        self.fill_paper(0, 2000)
        self.assertEqual(self.numbers(0), list(range(1936, 2000)))
        self.assertEqual(self.numbers(1999), [1999])
        self.refused(-1, "log", -1)

    def test_behind_a_renew(self):
        self.kind()
        self.kind(rank=2)
        self.do("on", 1)
        self.fill_paper(0, 100)
        self.assertEqual(self.do("renew"), 2)
        self.tells([0], "log", 0)
        self.do("tick", 3)
        self.do("off", 1)
        self.tells([1, 2, 3, 1, 4, 2], "log", 0)
        self.tells([1, 2, 3, 1, 4, 2], "log", 2)
        self.tells([0], "log", 3)
        self.fill_paper(0, 66)
        self.assertEqual(self.numbers(0), list(range(2, 66)))
        self.fill_paper(0, 67)
        self.assertEqual(self.numbers(0), list(range(3, 67)))

    def test_many_events_of_one_call(self):
        for k in range(32):
            self.kind(rank=k % 4)
        for m in (2 ** 32 - 1, 0, 2 ** 32 - 1):
            self.assertEqual(self.do("sense", m), 32)
        self.assertEqual(self.do("log", 0)[:6], [64, 32, 0, 0, 4, 0])
        self.tells([1, 95, 0, 31, 0, 3], "log", 95)


class BaseCall(TableCase):
    def test_no_kinds(self):
        self.tells([0], "base")

    def test_empty_up_to_64_events(self):
        self.kind(rank=1)
        self.do("on", 0)
        self.tells([0], "base")
        self.fill_paper(0, 64)
        self.tells([0], "base")
        self.fill_paper(0, 65)
        self.tells([1, 0, 0, 1, 0], "base")
        self.fill_paper(0, 66)
        self.tells([0], "base")
        self.fill_paper(0, 67)
        self.tells([1, 0, 2, 1, 0], "base")

    def test_each_event_that_leaves_the_log(self):
        self.kind()
        self.kind(rank=2, latching=1, escalate=5, again=5)
        self.do("on", 1)
        self.do("tick", 5)
        self.do("ack", 1)
        self.do("tick", 5)
        self.do("ack", 1)
        self.do("off", 1)
        self.do("reset", 1)
        self.assertEqual([what for kind, what, rank in self.events()], [0, 1, 3, 2, 3, 5])
        seen = []
        for number in range(65, 71):
            self.fill_paper(0, number)
            seen.append(self.do("base"))
        self.assertEqual(seen, [[1, 1, 0, 2, 0], [1, 1, 0, 3, 0], [1, 1, 0, 3, 1], [1, 1, 0, 3, 0], [1, 1, 0, 3, 1], [0]])

    def test_four_numbers_in_the_order_in_which_they_were_raised(self):
        for k in range(4):
            self.kind(rank=k)
        for k in (2, 1, 3):
            self.do("on", k)
        self.do("off", 2)
        self.do("ack", 1)
        self.do("on", 2)
        self.fill_paper(0, 70)
        self.tells([3, 1, 1, 1, 1, 3, 2, 3, 0, 2, 5, 2, 0], "base")

    def test_kind_that_was_reset_and_raised_again(self):
        self.kind()
        self.kind(rank=1, latching=1, escalate=1)
        self.do("on", 1)
        self.do("off", 1)
        self.do("tick", 1)
        self.do("ack", 1)
        self.do("reset", 1)
        self.do("on", 1)
        seen = []
        for number in range(65, 70):
            self.fill_paper(0, number)
            seen.append(self.do("base"))
        self.assertEqual(seen, [[1, 1, 0, 1, 0], [1, 1, 0, 2, 0], [1, 1, 0, 2, 1], [0], [1, 1, 4, 1, 0]])

    def test_as_it_was_then(self):
        self.kind()
        self.kind(rank=1)
        self.do("on", 1)
        self.fill_paper(0, 65)
        self.do("off", 1)
        self.tells([0], "order")
        self.tells([2, 1, 0, 1, 0, 0, 1, 0, 0], "base")

    def test_not_as_it_is_now(self):
        self.kind()
        self.kind(rank=1, escalate=1)
        self.do("on", 1)
        self.fill_paper(0, 65)
        self.do("tick", 1)
        self.do("ack", 1)
        self.assertEqual(self.do("base")[:5], [1, 1, 0, 1, 0])

    def test_all_32_kinds(self):
        for k in range(32):
            self.kind(rank=k % 4)
        for m in (2 ** 32 - 1, 0, 2 ** 32 - 1):
            self.do("sense", m)
        self.assertEqual(self.do("base"), [32] + [number for k in range(32) for number in (k, k, k % 4, 0)])
        self.do("sense", 0)
        self.tells([0], "base")


class Time(TableCase):
    def test_new(self):
        self.tells([0, 0, 0, 0], "time")

    def test_clock_and_next_number(self):
        self.do("clock", 1000000000 - 3)
        self.kind()
        self.do("on", 0)
        self.do("tick", 3)
        self.tells([1000000000, 1, 0, 0], "time")
        self.do("off", 0)
        self.tells([1000000000, 2, 0, 0], "time")

    def test_silence_up_to_its_very_second(self):
        self.kind(rank=2)
        self.do("tick", 5)
        self.do("on", 0)
        self.do("silence", 3)
        self.tells([5, 1, 3, 2], "time")
        self.do("tick", 2)
        self.tells([7, 1, 1, 2], "time")
        self.do("tick", 1)
        self.tells([8, 1, 0, 0], "time")

    def test_silence_that_hides_rank_0(self):
        self.kind(rank=0)
        self.do("on", 0)
        self.do("silence", 120)
        self.tells([0, 1, 120, 0], "time")

    def test_silence_ended_by_an_event(self):
        for rank in (2, 1, 2):
            self.kind(rank=rank)
        self.do("on", 0)
        self.do("silence", 50)
        self.do("on", 1)
        self.tells([0, 2, 50, 2], "time")
        self.do("ack", 0)
        self.tells([0, 3, 50, 2], "time")
        self.do("on", 2)
        self.tells([0, 4, 0, 0], "time")

    def test_silence_ended_by_the_clock(self):
        self.kind(rank=1)
        self.do("on", 0)
        self.do("silence", 100)
        self.do("off", 0)
        self.tells([0, 2, 100, 1], "time")
        self.do("clock", 99)
        self.tells([99, 2, 1, 1], "time")
        self.do("clock", 100)
        self.tells([100, 2, 0, 0], "time")

    def test_silence_that_lasts_behind_a_renew(self):
        self.kind(rank=1)
        self.kind(rank=0)
        self.do("on", 1)
        self.do("on", 0)
        self.do("silence", 9)
        self.do("tick", 4)
        self.do("renew")
        self.tells([4, 2, 5, 1], "time")

    def test_second_silence(self):
        self.kind(rank=3)
        self.kind(rank=1)
        self.do("sense", 0b11)
        self.do("silence", 2)
        self.do("tick", 2)
        self.do("ack", 0)
        self.assertEqual(self.do("silence", 7), 1)
        self.tells([2, 3, 7, 1], "time")

    def test_beyond_the_papers_end(self):
        for k in range(3):
            self.kind()
        self.fill_paper(0, 1999)
        self.assertEqual(self.do("sense", 0b110), 3)
        self.tells([0, 2002, 0, 0], "time")


if __name__ == "__main__":
    unittest.main()
