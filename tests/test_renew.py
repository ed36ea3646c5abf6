"""Promise 16: renew."""

import unittest

from tests.helpers import TableCase

WRITING = (("on", 0), ("off", 0), ("sense", 0), ("tick", 1), ("ack", 0), ("ackTo", 3), ("reset", 0), ("resetAll",),
           ("unshelve", 0))


class Renew(TableCase):
    def test_no_kinds(self):
        self.step(0, "renew")

    def test_nothing_raised(self):
        self.kind(rank=1)
        self.do("on", 0)
        self.do("off", 0)
        self.step(0, "renew", log=[0], time=[0, 0, 0, 0])

    def test_numbers_in_the_order_in_which_they_were_raised(self):
        for k in range(4):
            self.kind(rank=k)
        for k in (0, 3, 1, 2):
            self.do("on", k)
        self.do("off", 0)
        self.do("ack", 1)
        self.step(3, "renew", log=[0], base=[3, 3, 0, 3, 0, 1, 1, 1, 1, 2, 2, 2, 0], time=[0, 3, 0, 0],
                  kind3=[3, 0, 0, 0, 0, 0, 1, 0, 0, 1, 3, 0, 0, 0],
                  kind1=[1, 0, 0, 0, 0, 0, 1, 0, 0, 1, 1, 1, 0, 1],
                  kind2=[2, 0, 0, 0, 0, 0, 1, 0, 0, 1, 2, 0, 0, 2])

    def test_raised_again_stands_behind_the_others(self):
        for k in range(3):
            self.kind()
        self.do("sense", 0b111)
        self.do("off", 0)
        self.do("on", 0)
        self.assertEqual(self.do("renew"), 3)
        self.tells([3, 1, 0, 0, 0, 2, 1, 0, 0, 0, 2, 0, 0], "base")
        self.assertEqual([self.do("kind", k)[13] for k in range(3)], [2, 0, 1])

    def test_next_event_takes_the_next_number(self):
        for k in range(3):
            self.kind(rank=k)
        self.do("on", 2)
        self.do("on", 0)
        self.do("renew")
        self.do("tick", 7)
        self.assertEqual(self.do("on", 1), 2)
        self.tells([1, 2, 7, 1, 0, 1], "log", 0)
        self.assertEqual(self.do("kind", 1)[13], 2)
        self.tells([7, 3, 0, 0], "time")
        self.tells([2, 2, 0, 2, 0, 0, 1, 0, 0], "base")

    def test_base_has_the_rank_now(self):
        self.kind(rank=0, escalate=2)
        self.do("on", 0)
        self.do("tick", 4)
        self.do("renew")
        self.tells([1, 0, 0, 2, 0], "base")

    def test_all_else_stays(self):
        self.kind(rank=1, latching=1, escalate=9, again=9, stops=3)
        self.kind(rank=0, latching=1, escalate=9, again=9, stops=5)
        self.kind(rank=0, delay=50)
        self.kind(rank=1)
        self.do("link", 1, 0)
        self.do("on", 1)
        self.do("on", 0)
        self.do("off", 0)
        self.do("ack", 1)
        self.do("on", 2)
        self.do("shelve", 3, 40)
        self.do("silence", 30)
        self.do("tick", 5)
        self.do("renew")
        self.assertEqual(self.whole(), {
            "sound": 0, "stops": 7, "shown": [2, 0, 1, 0, 0, 1, 0, 1, 1], "tally": [1, 1, 0, 0, 1], "first": 2,
            "order": [2, 1, 0], "log": [0], "base": [2, 1, 0, 0, 1, 0, 1, 1, 0], "time": [5, 2, 25, 1],
            "kind0": [1, 1, 0, 9, 9, 3, 0, 0, 0, 1, 1, 0, 5, 1], "behind0": [1, 1], "why0": [0, 1, 1, 1],
            "kind1": [0, 1, 0, 9, 9, 5, 1, 0, 0, 1, 0, 1, 5, 0], "behind1": [0], "why1": [1, 0, 0],
            "kind2": [0, 0, 50, 0, 0, 0, 1, 5, 0, 0, 0, 0, 0, 0], "behind2": [0], "why2": -6,
            "kind3": [1, 0, 0, 0, 0, 0, 0, 0, 35, 0, 0, 0, 0, 0], "behind3": [0], "why3": -6})

    def test_twice(self):
        self.kind()
        self.kind(rank=1)
        self.do("on", 1)
        self.do("on", 0)
        self.assertEqual(self.do("renew"), 2)
        self.step(2, "renew")
        self.do("off", 1)
        self.assertEqual(self.do("kind", 0)[13], 1)
        self.step(1, "renew", kind0=[0, 0, 0, 0, 0, 0, 1, 0, 0, 1, 0, 0, 0, 0], log=[0], base=[1, 0, 0, 0, 0],
                  time=[0, 1, 0, 0])

    def test_all_32_kinds(self):
        for k in range(32):
            self.kind()
        for k in range(31, -1, -1):
            self.do("on", k)
        self.do("tick", 1)
        self.assertEqual(self.do("renew"), 32)
        self.assertEqual([self.do("kind", k)[13] for k in range(32)], list(range(31, -1, -1)))
        self.assertEqual(self.do("base"), [32] + [number for k in range(32) for number in (31 - k, k, 0, 0)])
        self.tells([1, 32, 0, 0], "time")


class BehindRenew(TableCase):
    def test_events_leave_the_log_into_the_new_base(self):
        self.kind()
        self.kind(rank=1, latching=1, escalate=5, again=5)
        self.kind(rank=2, latching=1)
        self.do("on", 2)
        self.do("on", 1)
        self.do("renew")
        self.tells([2, 2, 0, 2, 0, 1, 1, 1, 0], "base")
        self.do("tick", 5)
        self.do("ack", 1)
        self.do("tick", 5)
        self.do("off", 2)
        self.do("ack", 2)
        self.do("reset", 2)
        self.assertEqual([event[1] for event in self.events()], [1, 3, 2, 3, 5])
        self.fill_paper(0, 2 + 64)
        self.assertEqual(self.do("log", 0)[:6], [64, 2, 5, 1, 1, 2])
        self.tells([2, 2, 0, 2, 0, 1, 1, 1, 0], "base")
        seen = []
        for number in range(67, 72):
            self.fill_paper(0, number)
            seen.append(self.do("base"))
        self.assertEqual(seen, [[2, 2, 0, 2, 0, 1, 1, 2, 0], [2, 2, 0, 2, 0, 1, 1, 2, 1], [2, 2, 0, 2, 0, 1, 1, 2, 0],
                                [2, 2, 0, 2, 1, 1, 1, 2, 0], [1, 1, 1, 2, 0]])

    def test_gone_and_raised_again(self):
        self.kind()
        self.kind(rank=1)
        self.do("on", 1)
        self.do("on", 0)
        self.do("renew")
        self.do("off", 1)
        self.do("on", 1)
        self.fill_paper(0, 68)
        self.tells([2, 0, 1, 0, 0, 1, 3, 1, 0], "base")


class AtThePapersEnd(TableCase):
    def test_writing_goes_on_behind_it(self):
        self.kind()
        self.fill_paper(0, 2000)
        for call in WRITING:
            self.refused(-2, *call)
        self.assertEqual(self.do("renew"), 0)
        self.tells([0, 0, 0, 0], "time")
        wanted = (2, 2, 0, 0, -6, 0, -6, [0], 0)
        self.assertEqual(tuple(self.do(*call) for call in WRITING), wanted)
        self.assertEqual(self.do("on", 0), 2)

    def test_new_paper_has_an_end_too(self):
        for k in range(4):
            self.kind()
        for k in (3, 1, 2):
            self.do("on", k)
        self.fill_paper(0, 2000)
        self.refused(-2, "tick", 1)
        self.assertEqual(self.do("renew"), 4)
        self.fill_paper(0, 1999)
        self.assertEqual(self.do("ack", 1), 1)
        self.tells([0, 2000, 0, 0], "time")
        self.refused(-2, "tick", 1)

    def test_raised_in_another_order_than_that_of_their_numbers(self):
        for rank in (0, 1, 2, 1):
            self.kind(rank=rank, latching=rank % 2, escalate=3)
        self.fill_paper(0, 1990)
        self.do("on", 3)
        self.do("on", 2)
        self.do("on", 0)
        self.do("on", 1)
        self.do("off", 1)
        self.do("ack", 3)
        self.do("tick", 3)
        self.do("ack", 1)
        self.do("ackTo", 3)
        self.tells([3, 2001, 0, 0], "time")
        self.refused(-2, "off", 3)
        self.refused(-2, "resetAll")
        self.step(4, "renew", log=[0], base=[4, 3, 0, 1, 1, 2, 1, 3, 1, 0, 2, 1, 1, 1, 3, 2, 1], time=[3, 4, 0, 0],
                  kind0=[0, 0, 0, 3, 0, 0, 1, 0, 0, 1, 1, 1, 0, 2],
                  kind1=[1, 1, 0, 3, 0, 0, 0, 0, 0, 1, 2, 1, 0, 3],
                  kind2=[2, 0, 0, 3, 0, 0, 1, 0, 0, 1, 3, 1, 0, 1],
                  kind3=[1, 1, 0, 3, 0, 0, 1, 0, 0, 1, 1, 1, 0, 0])
        self.assertEqual(self.do("off", 3), 1)
        self.assertEqual(self.do("resetAll"), [2, 1, 3])
        self.tells([2, 4, 3, 1, 5, 2, 5, 3, 3, 5, 1], "log", 0)
        self.tells([2, 2, 3, 1, 1, 0, 1, 1, 1], "shown")

    def test_a_call_that_went_beyond_the_end(self):
        for k in range(5):
            self.kind(rank=k % 4)
        self.do("on", 4)
        self.fill_paper(0, 1999)
        self.assertEqual(self.do("sense", 0b11110), 3)
        self.tells([0, 2002, 0, 0], "time")
        self.tells([2, 2000, 0, 2, 0, 2, 2001, 0, 3, 0, 3], "log", 2000)
        self.refused(-2, "sense", 0)
        self.assertEqual(self.do("renew"), 4)
        self.tells([4, 4, 0, 0, 0, 1, 1, 1, 0, 2, 2, 2, 0, 3, 3, 3, 0], "base")
        self.assertEqual(self.do("sense", 0), 4)

    def test_what_is_out_of_range_comes_ahead_of_the_end(self):
        self.kind()
        self.fill_paper(0, 2000)
        self.refused(-1, "on", 1)
        self.refused(-1, "sense", 2)
        self.refused(-1, "tick", 0)
        self.do("renew")
        self.refused(-1, "on", 1)


if __name__ == "__main__":
    unittest.main()
