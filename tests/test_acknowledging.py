"""Promises 8 to 10: ack, ackTo, silence."""

import unittest

from tests.helpers import TableCase

TOO_BIG = 10 ** 18


class Ack(TableCase):
    def test_acknowledged_now(self):
        self.kind(rank=1, escalate=5)
        self.do("on", 0)
        self.do("tick", 3)
        self.see(0, waited=3)
        self.assertEqual(self.do("ack", 0), 1)
        self.see(0, acknowledged=True, waited=0, raised=True, rank_now=1)
        self.assertEqual(self.log()[-1], (1, 3, 0, 3, 1))

    def test_event_tells_the_rank_now(self):
        self.kind(escalate=1)
        self.do("on", 0)
        self.do("tick", 2)
        self.do("ack", 0)
        self.assertEqual(self.events()[-1], (0, 3, 2))

    def test_already(self):
        self.kind(again=9)
        self.do("on", 0)
        self.do("ack", 0)
        self.do("tick", 4)
        self.unchanged(0, "ack", 0)
        self.see(0, waited=4)

    def test_refusals(self):
        self.refused(-1, "ack", 0)
        self.kind()
        self.kind(delay=5)
        for wrong in (-1, 2, TOO_BIG, -TOO_BIG):
            self.refused(-1, "ack", wrong)
        self.refused(-6, "ack", 0)
        self.do("on", 1)
        self.refused(-6, "ack", 1)
        self.fill_paper(0, 2000)
        self.refused(-2, "ack", 0)
        self.refused(-2, "ack", 1)
        self.refused(-1, "ack", 2)


class AckTo(TableCase):
    def setUp(self):
        super().setUp()
        for rank in (3, 2, 1, 0, 1):
            self.kind(rank=rank, latching=1, again=50)

    def test_up_to_the_rank_told(self):
        self.do("sense", 31)
        self.assertEqual(self.do("ackTo", 1), 3)
        self.assertEqual([kind.acknowledged for kind in self.table.kinds], [False, False, True, True, True])
        self.assertEqual(self.events()[5:], [(2, 3, 1), (3, 3, 0), (4, 3, 1)])
        self.unchanged(0, "ackTo", 1)
        self.assertEqual(self.do("ackTo", 3), 2)

    def test_rank_0(self):
        self.do("sense", 31)
        self.assertEqual(self.do("ackTo", 0), 1)
        self.see(3, acknowledged=True)

    def test_rank_now_counts_not_the_defined_one(self):
        self.kind(rank=0, escalate=2)
        self.do("on", 5)
        self.do("tick", 3)
        self.see(5, rank_now=1, waited=1)
        self.unchanged(0, "ackTo", 0)
        self.assertEqual(self.do("ackTo", 1), 1)
        self.see(5, acknowledged=True, waited=0)

    def test_those_already_acknowledged_stay(self):
        self.do("sense", 12)
        self.do("ack", 2)
        self.do("tick", 7)
        self.assertEqual(self.do("ackTo", 3), 1)
        self.see(2, waited=7, acknowledged=True)

    def test_nothing_raised(self):
        self.unchanged(0, "ackTo", 3)

    def test_refusals(self):
        for wrong in (-1, 4, TOO_BIG, -TOO_BIG):
            self.refused(-1, "ackTo", wrong)
        self.kind()
        self.fill_paper(5, 2000)
        self.refused(-2, "ackTo", 3)
        self.refused(-1, "ackTo", 4)

    def test_papers_end_is_asked_at_the_beginning_alone(self):
        self.kind()
        self.do("sense", 31)
        self.fill_paper(5, 1999)
        self.assertEqual(self.do("ackTo", 3), 5)
        self.assertEqual(self.table.paper.next_number, 2004)


class Silence(TableCase):
    def test_hides_the_greatest_rank_that_sounds(self):
        self.kind(rank=1)
        self.kind(rank=2)
        self.kind(rank=0)
        self.do("clock", 50)
        self.do("sense", 7)
        self.do("ack", 1)
        self.assertEqual(self.do("silence", 120), 1)
        self.assertEqual(self.silence(), (120, 1))
        self.assertEqual(self.table.silent_to, 170)

    def test_hides_the_rank_now(self):
        self.kind(rank=0, escalate=2)
        self.do("on", 0)
        self.do("tick", 4)
        self.assertEqual(self.do("silence", 1), 2)

    def test_rank_0_may_be_hidden(self):
        self.kind()
        self.do("on", 0)
        self.assertEqual(self.do("silence", 1), 0)
        self.refused(-10, "silence", 1)

    def test_out_of_range(self):
        for wrong in (0, -1, 121, TOO_BIG, -TOO_BIG):
            self.refused(-1, "silence", wrong)
        self.kind()
        self.do("on", 0)
        for wrong in (0, -1, 121, TOO_BIG, -TOO_BIG):
            self.refused(-1, "silence", wrong)
        self.assertEqual(self.do("silence", 120), 0)
        self.refused(-1, "silence", 121)

    def test_nothing_sounds(self):
        self.refused(-10, "silence", 1)
        self.kind(delay=3)
        self.do("on", 0)
        self.refused(-10, "silence", 1)
        self.do("tick", 3)
        self.do("ack", 0)
        self.refused(-10, "silence", 1)

    def test_raised_at_the_hidden_rank_ends_it(self):
        for rank, ends in ((0, False), (1, True), (2, True)):
            with self.subTest(rank=rank):
                self.tearDown()
                self.setUp()
                self.kind(rank=1)
                self.kind(rank=rank)
                self.do("on", 0)
                self.do("silence", 100)
                self.do("on", 1)
                self.assertEqual(self.silence(), (0, 0) if ends else (100, 1))

    def test_sounding_again_by_on_ends_it(self):
        self.kind(rank=1)
        self.kind(rank=2, latching=1)
        self.do("sense", 3)
        self.do("ack", 1)
        self.do("off", 1)
        self.assertEqual(self.do("silence", 100), 1)
        self.do("on", 1)
        self.assertEqual(self.silence(), (0, 0))
        self.assertEqual(self.do("silence", 100), 2)

    def test_other_events_do_not_end_it(self):
        self.kind(rank=1)
        self.kind(rank=1)
        self.kind(rank=1, latching=1)
        self.do("sense", 7)
        self.do("silence", 100)
        self.do("ack", 0)
        self.do("off", 1)
        self.do("off", 2)
        self.do("ack", 2)
        self.do("reset", 2)
        self.assertEqual([what for kind, what, rank in self.events()[3:]], [3, 4, 3, 5])
        self.assertEqual(self.silence(), (100, 1))

    def test_lasts_though_nothing_is_raised_any_more(self):
        self.kind(rank=1)
        self.do("on", 0)
        self.do("silence", 10)
        self.do("off", 0)
        self.assertEqual(self.silence(), (10, 1))
        self.kind(rank=0)
        self.do("on", 1)
        self.refused(-10, "silence", 5)
        self.do("tick", 10)
        self.assertEqual(self.do("silence", 5), 0)

    def test_not_refused_at_the_papers_end(self):
        self.kind(rank=2)
        self.kind()
        self.do("on", 0)
        self.fill_paper(1, 2000)
        self.refused(-2, "off", 0)
        self.assertEqual(self.do("silence", 5), 2)


if __name__ == "__main__":
    unittest.main()
