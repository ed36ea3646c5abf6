"""Promises 4 to 6: on, off, sense."""

import unittest

from tests.helpers import TableCase

TOO_BIG = 10 ** 18


class On(TableCase):
    def test_raised_at_once(self):
        self.do("clock", 5)
        self.kind(rank=2, escalate=9)
        self.assertEqual(self.do("on", 0), 2)
        self.see(0, holds=True, raised=True, rank_now=2, acknowledged=False, waited=0, held=0, raised_by=0)
        self.assertEqual(self.log(), [(0, 5, 0, 0, 2)])

    def test_holding_already(self):
        self.kind()
        self.kind(delay=9)
        for k in (0, 1):
            self.do("on", k)
            self.unchanged(0, "on", k)
        self.do("tick", 4)
        self.unchanged(0, "on", 1)
        self.see(1, held=4)

    def test_holding_already_and_acknowledged(self):
        self.kind()
        self.do("on", 0)
        self.do("ack", 0)
        self.unchanged(0, "on", 0)

    def test_delay_holds_it_back(self):
        self.kind(delay=1)
        self.assertEqual(self.do("on", 0), 1)
        self.see(0, holds=True, raised=False, held=0)
        self.assertEqual(self.events(), [])

    def test_shelved_is_not_raised(self):
        self.kind()
        self.do("shelve", 0, 1)
        self.assertEqual(self.do("on", 0), 1)
        self.see(0, holds=True, raised=False)

    def test_at_the_very_second_up_to_which_it_was_shelved(self):
        self.kind()
        self.do("shelve", 0, 3)
        self.do("tick", 2)
        self.assertEqual(self.do("on", 0), 1)
        self.do("off", 0)
        self.do("tick", 1)
        self.assertEqual(self.do("on", 0), 2)

    def test_acknowledged_sounds_again(self):
        self.kind(rank=1, latching=1, escalate=5, again=7)
        self.do("on", 0)
        self.do("tick", 5)
        self.do("ack", 0)
        self.do("tick", 3)
        self.do("off", 0)
        self.see(0, acknowledged=True, waited=3)
        self.assertEqual(self.do("on", 0), 2)
        self.see(0, raised=True, holds=True, acknowledged=False, waited=0, rank_now=2, raised_by=0)
        self.assertEqual(self.events()[-1], (0, 2, 2))

    def test_raised_and_not_acknowledged(self):
        self.kind(latching=1, escalate=9)
        self.do("on", 0)
        self.do("off", 0)
        self.do("tick", 4)
        self.assertEqual(self.do("on", 0), 1)
        self.see(0, holds=True, acknowledged=False, waited=4)
        self.assertEqual(len(self.events()), 1)

    def test_refusals(self):
        self.refused(-1, "on", 0)
        self.kind()
        for wrong in (-1, 1, TOO_BIG, -TOO_BIG):
            self.refused(-1, "on", wrong)
        self.fill_paper(0, 2000)
        self.refused(-2, "on", 0)
        self.refused(-1, "on", 1)


class Off(TableCase):
    def test_not_holding(self):
        self.kind()
        self.unchanged(0, "off", 0)
        self.kind(latching=1)
        self.do("on", 1)
        self.do("off", 1)
        self.unchanged(0, "off", 1)

    def test_not_raised(self):
        self.kind(delay=9)
        self.do("on", 0)
        self.do("tick", 5)
        self.see(0, held=5)
        self.assertEqual(self.do("off", 0), 1)
        self.see(0, holds=False, held=0, raised=False)
        self.assertEqual(self.events(), [])

    def test_latching_stays_as_it_is(self):
        self.kind(rank=1, latching=1, escalate=9)
        self.do("on", 0)
        self.do("tick", 4)
        self.assertEqual(self.do("off", 0), 1)
        self.see(0, holds=False, raised=True, rank_now=1, acknowledged=False, waited=4)
        self.assertEqual(len(self.events()), 1)

    def test_goes_by_itself_with_the_rank_it_had(self):
        self.kind(rank=1, escalate=2)
        self.do("on", 0)
        self.do("tick", 2)
        self.assertEqual(self.do("off", 0), 2)
        self.see(0, holds=False, raised=False, rank_now=0, waited=0, held=0, raised_by=0, acknowledged=False)
        self.assertEqual(self.log()[-1], (2, 2, 0, 4, 2))

    def test_nothing_of_its_raising_is_left(self):
        self.kind(rank=3)
        self.kind(rank=1, escalate=9)
        self.do("sense", 3)
        self.do("tick", 4)
        self.see(1, waited=4, raised_by=1)
        self.do("off", 1)
        self.see(1, raised=False, rank_now=0, acknowledged=False, waited=0, raised_by=0)
        self.do("on", 1)
        self.see(1, raised=True, rank_now=1, acknowledged=False, waited=0, raised_by=3)

    def test_acknowledged_goes_by_itself_too(self):
        self.kind()
        self.do("on", 0)
        self.do("ack", 0)
        self.assertEqual(self.do("off", 0), 2)
        self.assertEqual(self.do("on", 0), 2)
        self.see(0, acknowledged=False, raised_by=3)

    def test_refusals(self):
        self.refused(-1, "off", 0)
        self.kind()
        for wrong in (-1, 1, TOO_BIG, -TOO_BIG):
            self.refused(-1, "off", wrong)
        self.fill_paper(0, 2000)
        self.refused(-2, "off", 0)
        self.refused(-1, "off", -1)


class Sense(TableCase):
    def test_no_kinds(self):
        self.unchanged(0, "sense", 0)
        self.refused(-1, "sense", 1)
        self.refused(-1, "sense", -1)

    def test_on_and_off_in_the_order_of_the_numbers(self):
        for k in range(4):
            self.kind(rank=k)
        self.assertEqual(self.do("sense", 0b1010), 2)
        self.assertEqual(self.raised(), [1, 3])
        self.assertEqual(self.do("sense", 0b0110), 2)
        self.assertEqual(self.events(), [(1, 0, 1), (3, 0, 3), (2, 0, 2), (3, 4, 3)])
        self.assertEqual(self.raised(), [1, 2])

    def test_counts_events_not_changes(self):
        self.kind(delay=5)
        self.kind(latching=1)
        self.kind()
        self.assertEqual(self.do("sense", 7), 2)
        self.do("ack", 1)
        self.assertEqual(self.do("sense", 0), 1)
        self.assertEqual(self.do("sense", 2), 1)
        self.assertEqual(self.events()[-1], (1, 2, 0))
        self.unchanged(0, "sense", 2)

    def test_range_grows_with_the_kinds(self):
        for c in range(1, 33):
            self.kind()
            self.refused(-1, "sense", 2 ** c)
        self.assertEqual(self.do("sense", 2 ** 32 - 1), 32)
        self.assertEqual(self.do("sense", 0), 32)
        for wrong in (-1, 2 ** 32, TOO_BIG, -TOO_BIG):
            self.refused(-1, "sense", wrong)

    def test_papers_end_is_asked_at_the_beginning_alone(self):
        for k in range(32):
            self.kind()
        self.fill_paper(0, 1999)
        self.assertEqual(self.do("sense", 2 ** 32 - 2), 32)
        self.assertEqual(self.table.paper.next_number, 2031)
        self.refused(-2, "sense", 0)
        self.refused(-1, "sense", 2 ** 32)


if __name__ == "__main__":
    unittest.main()
