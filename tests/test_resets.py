"""Promises 11 and 12: reset and resetAll."""

import unittest

from tests.helpers import TableCase

TOO_BIG = 10 ** 18


class Reset(TableCase):
    def ready(self, *numbers):
        for k in numbers:
            self.do("on", k)
            self.do("off", k)
            self.do("ack", k)

    def test_reset(self):
        self.kind(rank=1, latching=1, escalate=3)
        self.do("on", 0)
        self.do("tick", 4)
        self.do("off", 0)
        self.do("ack", 0)
        self.assertEqual(self.do("reset", 0), 1)
        self.see(0, raised=False, holds=False, held=0, rank_now=0, acknowledged=False, waited=0, raised_by=0)
        self.assertEqual(self.log()[-1], (3, 4, 0, 5, 2))
        self.refused(-6, "reset", 0)

    def test_raised_anew_behind_it(self):
        self.kind(rank=1, latching=1, escalate=1)
        self.do("on", 0)
        self.do("tick", 1)
        self.do("off", 0)
        self.do("ack", 0)
        self.do("reset", 0)
        self.assertEqual(self.do("on", 0), 2)
        self.see(0, rank_now=1, acknowledged=False, raised_by=4)

    def test_refusals_in_their_order(self):
        self.refused(-1, "reset", 0)
        self.kind(latching=1)
        self.kind(latching=1)
        self.do("link", 0, 1)
        for wrong in (-1, 2, TOO_BIG, -TOO_BIG):
            self.refused(-1, "reset", wrong)
        self.refused(-6, "reset", 1)
        self.do("on", 0)
        self.refused(-6, "reset", 1)
        self.do("on", 1)
        self.refused(-7, "reset", 1)
        self.do("ack", 1)
        self.refused(-7, "reset", 1)
        self.do("off", 1)
        self.refused(-9, "reset", 1)
        self.do("on", 1)
        self.do("off", 1)
        self.refused(-8, "reset", 1)
        self.do("ack", 1)
        self.refused(-9, "reset", 1)
        self.do("off", 0)
        self.do("ack", 0)
        self.refused(-9, "reset", 1)
        self.assertEqual(self.do("reset", 0), 1)
        self.assertEqual(self.do("reset", 1), 1)

    def test_not_raised_though_its_condition_holds(self):
        self.kind(delay=5)
        self.do("on", 0)
        self.refused(-6, "reset", 0)

    def test_through_a_kind_that_is_not_raised(self):
        for k in range(3):
            self.kind(latching=1)
        self.do("link", 0, 1)
        self.do("link", 1, 2)
        self.ready(0, 2)
        self.refused(-9, "reset", 2)
        self.do("unlink", 0, 1)
        self.assertEqual(self.do("reset", 2), 1)

    def test_kinds_behind_it_do_not_matter(self):
        for k in range(2):
            self.kind(latching=1)
        self.do("link", 0, 1)
        self.ready(0, 1)
        self.assertEqual(self.do("reset", 0), 1)

    def test_papers_end(self):
        self.kind(latching=1)
        self.kind()
        self.ready(0)
        self.fill_paper(1, 2000)
        self.refused(-2, "reset", 0)
        self.refused(-2, "reset", 1)
        self.refused(-1, "reset", 2)

    def test_last_event_number_of_the_paper(self):
        self.kind(latching=1)
        self.kind()
        self.ready(0)
        self.fill_paper(1, 1999)
        self.assertEqual(self.do("reset", 0), 1)
        self.assertEqual(self.table.paper.next_number, 2000)


class ResetAll(TableCase):
    def setUp(self):
        super().setUp()
        for k in range(6):
            self.kind(latching=1)

    def ready(self, m):
        self.do("sense", m)
        self.do("sense", 0)
        self.do("ackTo", 3)

    def test_nothing_raised(self):
        self.assertEqual(self.do("resetAll"), [0])

    def test_least_number_first(self):
        self.ready(0b101101)
        self.assertEqual(self.do("resetAll"), [4, 0, 2, 3, 5])
        self.assertEqual(self.raised(), [])
        self.assertEqual(self.events()[-4:], [(0, 5, 0), (2, 5, 0), (3, 5, 0), (5, 5, 0)])

    def test_links_make_the_order(self):
        self.do("link", 5, 0)
        self.do("link", 3, 5)
        self.do("link", 4, 1)
        self.ready(0b111111)
        self.assertEqual(self.do("resetAll"), [6, 2, 3, 4, 1, 5, 0])

    def test_through_a_kind_that_is_not_raised(self):
        self.do("link", 5, 3)
        self.do("link", 3, 0)
        self.ready(0b110001)
        self.assertEqual(self.do("resetAll"), [3, 4, 5, 0])

    def test_those_that_may_not_be_reset_stay(self):
        self.do("link", 0, 1)
        self.do("link", 1, 2)
        self.ready(0b011111)
        self.do("on", 0)
        self.do("ack", 0)
        self.do("on", 3)
        self.do("off", 3)
        self.assertEqual(self.do("resetAll"), [1, 4])
        self.assertEqual(self.raised(), [0, 1, 2, 3])
        self.do("off", 0)
        self.assertEqual(self.do("resetAll"), [3, 0, 1, 2])

    def test_papers_end(self):
        self.kind()
        self.ready(0b11)
        self.fill_paper(6, 1999)
        self.assertEqual(self.do("resetAll"), [2, 0, 1])
        self.assertEqual(self.table.paper.next_number, 2001)
        self.refused(-2, "resetAll")


if __name__ == "__main__":
    unittest.main()
