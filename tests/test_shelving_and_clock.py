"""Promises 13 to 15: shelve, unshelve, clock."""

import unittest

from tests.helpers import TableCase

TOO_BIG = 10 ** 18


class Shelve(TableCase):
    def test_shelved(self):
        self.do("clock", 100)
        self.kind(rank=1, delay=9)
        self.do("on", 0)
        self.do("tick", 5)
        self.assertEqual(self.do("shelve", 0, 3600), 1)
        self.see(0, shelved_to=3705, held=0, holds=True)
        self.assertEqual(self.do("kind", 0)[8], 3600)

    def test_whatever_it_was_before(self):
        self.kind()
        self.do("shelve", 0, 100)
        self.do("tick", 10)
        self.assertEqual(self.do("shelve", 0, 1), 1)
        self.see(0, shelved_to=11)
        self.assertEqual(self.do("shelve", 0, 50), 1)
        self.see(0, shelved_to=60)

    def test_refusals_in_their_order(self):
        for rank in (0, 1, 2, 3):
            self.kind(rank=rank)
        for wrong in (-1, 4, TOO_BIG, -TOO_BIG):
            self.refused(-1, "shelve", wrong, 1)
        for wrong in (0, -1, 3601, TOO_BIG, -TOO_BIG):
            self.refused(-1, "shelve", 0, wrong)
            self.refused(-1, "shelve", 2, wrong)
        self.refused(-11, "shelve", 2, 1)
        self.refused(-11, "shelve", 3, 3600)
        self.do("sense", 15)
        self.refused(-12, "shelve", 0, 1)
        self.refused(-12, "shelve", 1, 1)
        self.refused(-11, "shelve", 2, 1)
        self.refused(-11, "shelve", 3, 1)
        self.refused(-1, "shelve", 3, 0)
        self.do("sense", 0)
        self.assertEqual(self.do("shelve", 0, 1), 1)
        self.assertEqual(self.do("shelve", 1, 3600), 1)

    def test_rank_of_its_definition_counts(self):
        self.kind(rank=1, escalate=1)
        self.do("on", 0)
        self.do("tick", 2)
        self.see(0, rank_now=3)
        self.refused(-12, "shelve", 0, 1)

    def test_not_refused_at_the_papers_end(self):
        self.kind()
        self.kind()
        self.fill_paper(0, 2000)
        self.assertEqual(self.do("shelve", 1, 5), 1)

    def test_at_the_last_second(self):
        self.kind()
        self.do("clock", 1000000000)
        self.assertEqual(self.do("shelve", 0, 3600), 1)
        self.assertEqual(self.do("on", 0), 1)
        self.assertEqual(self.do("unshelve", 0), 2)


class Unshelve(TableCase):
    def test_not_shelved(self):
        self.kind()
        self.unchanged(0, "unshelve", 0)
        self.do("on", 0)
        self.unchanged(0, "unshelve", 0)

    def test_at_the_very_second_it_is_not_shelved_any_more(self):
        self.kind()
        self.do("shelve", 0, 10)
        self.do("tick", 10)
        self.unchanged(0, "unshelve", 0)
        self.do("shelve", 0, 10)
        self.do("tick", 9)
        self.assertEqual(self.do("unshelve", 0), 1)
        self.see(0, shelved_to=19)

    def test_raised_by_it(self):
        self.kind(rank=1)
        self.do("shelve", 0, 10)
        self.do("on", 0)
        self.do("tick", 3)
        self.assertEqual(self.do("unshelve", 0), 2)
        self.see(0, raised=True, rank_now=1, shelved_to=3)
        self.assertEqual(self.events(), [(0, 0, 1)])

    def test_not_raised_with_a_delay(self):
        self.kind(delay=1)
        self.do("shelve", 0, 10)
        self.do("on", 0)
        self.assertEqual(self.do("unshelve", 0), 1)
        self.see(0, raised=False)

    def test_not_raised_without_its_condition(self):
        self.kind()
        self.do("shelve", 0, 10)
        self.assertEqual(self.do("unshelve", 0), 1)
        self.see(0, raised=False)
        self.assertEqual(self.do("on", 0), 2)

    def test_refusals(self):
        self.refused(-1, "unshelve", 0)
        self.kind()
        self.kind()
        self.do("shelve", 0, 10)
        for wrong in (-1, 2, TOO_BIG, -TOO_BIG):
            self.refused(-1, "unshelve", wrong)
        self.fill_paper(1, 2000)
        self.refused(-2, "unshelve", 0)
        self.refused(-2, "unshelve", 1)
        self.refused(-1, "unshelve", 2)


class Clock(TableCase):
    def test_moves(self):
        self.assertEqual(self.do("clock", 0), 0)
        self.assertEqual(self.do("clock", 7), 7)
        self.assertEqual(self.table.clock, 7)
        self.assertEqual(self.do("clock", 7), 7)
        self.assertEqual(self.do("tick", 1), 0)
        self.assertEqual(self.table.clock, 8)

    def test_last_second(self):
        self.refused(-1, "clock", 1000000001)
        self.assertEqual(self.do("clock", 1000000000), 1000000000)
        self.assertEqual(self.do("clock", 1000000000), 1000000000)
        self.refused(-13, "clock", 999999999)

    def test_out_of_range(self):
        for wrong in (-1, 1000000001, TOO_BIG, -TOO_BIG):
            self.refused(-1, "clock", wrong)

    def test_refusals_in_their_order(self):
        self.kind(latching=1)
        self.kind(delay=100)
        self.do("clock", 50)
        self.refused(-13, "clock", 49)
        self.do("on", 0)
        self.refused(-14, "clock", 50)
        self.refused(-14, "clock", 60)
        self.refused(-13, "clock", 49)
        self.refused(-1, "clock", -1)
        self.do("off", 0)
        self.refused(-14, "clock", 60)
        self.do("ack", 0)
        self.refused(-14, "clock", 60)
        self.do("reset", 0)
        self.do("on", 1)
        self.refused(-14, "clock", 60)
        self.do("off", 1)
        self.assertEqual(self.do("clock", 60), 60)

    def test_silence_ends_at_its_very_second(self):
        self.kind(rank=1)
        self.do("on", 0)
        self.do("silence", 10)
        self.do("off", 0)
        self.do("clock", 9)
        self.assertEqual(self.silence(), (1, 1))
        self.do("clock", 10)
        self.assertEqual(self.silence(), (0, 0))
        self.kind(rank=0)
        self.do("on", 1)
        self.assertEqual(self.do("silence", 1), 0)

    def test_shelving_ends_at_its_very_second(self):
        self.kind()
        self.do("shelve", 0, 10)
        self.do("clock", 9)
        self.assertEqual(self.do("on", 0), 1)
        self.do("off", 0)
        self.do("clock", 10)
        self.assertEqual(self.do("on", 0), 2)

    def test_not_refused_at_the_papers_end(self):
        self.kind()
        self.fill_paper(0, 2000)
        self.assertFalse(self.table.kinds[0].holds)
        self.assertEqual(self.do("clock", 5), 5)


if __name__ == "__main__":
    unittest.main()
