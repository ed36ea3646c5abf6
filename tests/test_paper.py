"""What the promises 1 to 15 lean on: events, the log, the base, the paper's end, the first."""

import unittest

from tests.helpers import TableCase, base_of, log_of, silence_of


class NewTable(TableCase):
    def test_nothing_is_there(self):
        self.assertEqual((self.table.kinds, self.table.clock, self.table.first), ([], 0, None))
        self.assertEqual((self.table.paper.next_number, log_of(self.table), base_of(self.table)), (0, [], []))
        self.assertEqual(silence_of(self.table), (0, 0))


class Log(TableCase):
    def test_every_sort_of_event(self):
        self.kind(rank=1, latching=1, escalate=2, again=3)
        self.kind(rank=3)
        self.do("clock", 10)
        self.do("on", 0)
        self.do("tick", 2)
        self.do("ack", 0)
        self.do("tick", 3)
        self.do("on", 1)
        self.do("off", 1)
        self.do("off", 0)
        self.do("ack", 0)
        self.do("reset", 0)
        self.assertEqual(log_of(self.table), [
            (0, 10, 0, 0, 1), (1, 12, 0, 1, 2), (2, 12, 0, 3, 2), (3, 15, 0, 2, 2),
            (4, 15, 1, 0, 3), (5, 15, 1, 4, 3), (6, 15, 0, 3, 2), (7, 15, 0, 5, 2)])

    def test_keeps_64(self):
        self.kind()
        self.fill_paper(0, 64)
        self.assertEqual([e[0] for e in log_of(self.table)], list(range(64)))
        self.fill_paper(0, 65)
        self.assertEqual([e[0] for e in log_of(self.table)], list(range(1, 65)))
        self.fill_paper(0, 300)
        self.assertEqual([e[0] for e in log_of(self.table)], list(range(236, 300)))


class Base(TableCase):
    def test_empty_up_to_the_64th_event(self):
        self.kind()
        self.fill_paper(0, 64)
        self.assertEqual(base_of(self.table), [])
        self.fill_paper(0, 65)
        self.assertEqual(base_of(self.table), [(0, 0, 0, 0)])
        self.fill_paper(0, 66)
        self.assertEqual(base_of(self.table), [])
        self.fill_paper(0, 67)
        self.assertEqual(base_of(self.table), [(0, 2, 0, 0)])

    def test_each_event_that_leaves_the_log(self):
        self.kind()
        self.kind(rank=2, latching=1, escalate=5, again=5)
        self.do("on", 1)
        self.do("tick", 5)
        self.do("ack", 1)
        self.do("tick", 5)
        self.do("ack", 1)
        self.do("off", 1)
        self.do("reset", 1)
        self.assertEqual([what for kind, what, rank in self.events()], [0, 1, 3, 2, 3, 5])
        seen = []
        for number in range(65, 71):
            self.fill_paper(0, number)
            seen.append(base_of(self.table))
        self.assertEqual(seen, [[(1, 0, 2, 0)], [(1, 0, 3, 0)], [(1, 0, 3, 1)], [(1, 0, 3, 0)], [(1, 0, 3, 1)], []])

    def test_in_the_order_in_which_they_were_raised(self):
        for k in range(4):
            self.kind(rank=k)
        for k in (2, 1, 3):
            self.do("on", k)
        self.do("off", 2)
        self.do("ack", 1)
        self.do("on", 2)
        self.fill_paper(0, 70)
        self.assertEqual(base_of(self.table), [(1, 1, 1, 1), (3, 2, 3, 0), (2, 5, 2, 0)])

    def test_is_as_it_was_then_not_as_it_is_now(self):
        self.kind()
        self.kind(rank=1, escalate=1)
        self.do("on", 1)
        self.fill_paper(0, 65)
        self.do("tick", 1)
        self.do("ack", 1)
        self.assertEqual(base_of(self.table)[0], (1, 0, 1, 0))


class PapersEnd(TableCase):
    def test_at_2000(self):
        self.kind()
        self.kind()
        self.fill_paper(0, 1999)
        self.assertEqual(self.do("ack", 0), 1)
        self.assertEqual(self.table.paper.next_number, 2000)
        for name, numbers in (("on", [1]), ("off", [0]), ("sense", [0]), ("tick", [1]), ("ack", [0]), ("ackTo", [0]),
                              ("reset", [0]), ("resetAll", []), ("unshelve", [0])):
            self.refused(-2, name, *numbers)

    def test_not_at_1999(self):
        self.kind()
        self.fill_paper(0, 1999)
        self.assertEqual(self.do("tick", 1), 0)
        self.assertEqual(self.do("unshelve", 0), 0)
        self.assertEqual(self.do("resetAll"), [0])
        self.assertEqual(self.do("off", 0), 2)
        self.refused(-2, "on", 0)


class First(TableCase):
    def setUp(self):
        super().setUp()
        for k in range(3):
            self.kind(latching=k % 2)

    def test_none_at_first(self):
        self.assertIsNone(self.table.first)

    def test_stays_while_others_are_raised(self):
        self.do("on", 2)
        self.do("on", 0)
        self.assertEqual(self.table.first, 2)
        self.do("off", 2)
        self.assertEqual(self.table.first, 2)
        self.do("on", 1)
        self.do("off", 0)
        self.assertEqual(self.table.first, 2)

    def test_none_when_all_went_by_themselves(self):
        self.do("on", 2)
        self.do("off", 2)
        self.assertIsNone(self.table.first)
        self.do("on", 0)
        self.assertEqual(self.table.first, 0)

    def test_none_when_all_were_reset(self):
        self.do("on", 1)
        self.do("off", 1)
        self.do("ack", 1)
        self.assertEqual(self.table.first, 1)
        self.do("reset", 1)
        self.assertIsNone(self.table.first)


if __name__ == "__main__":
    unittest.main()
