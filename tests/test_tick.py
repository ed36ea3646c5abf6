"""Promise 7: tick."""

import unittest

from tests.helpers import TableCase

TOO_BIG = 10 ** 18


class Refusals(TableCase):
    def test_range(self):
        for wrong in (0, -1, 3601, TOO_BIG, -TOO_BIG):
            self.refused(-1, "tick", wrong)
        self.assertEqual(self.do("tick", 1), 0)
        self.assertEqual(self.do("tick", 3600), 0)
        self.assertEqual(self.table.clock, 3601)

    def test_last_second(self):
        self.do("clock", 999999990)
        self.refused(-5, "tick", 11)
        self.assertEqual(self.do("tick", 10), 0)
        self.assertEqual(self.table.clock, 1000000000)
        self.refused(-5, "tick", 1)
        self.refused(-1, "tick", 3601)

    def test_papers_end_comes_ahead_of_the_clocks_end(self):
        self.kind()
        self.do("clock", 1000000000)
        self.fill_paper(0, 2000)
        self.refused(-2, "tick", 1)
        self.refused(-1, "tick", 0)

    def test_papers_end_is_asked_at_the_beginning_alone(self):
        self.kind()
        self.kind(escalate=1)
        self.do("on", 1)
        self.fill_paper(0, 1999)
        self.assertEqual(self.do("tick", 3), 3)
        self.assertEqual(self.table.paper.next_number, 2002)
        self.refused(-2, "tick", 1)


class Delay(TableCase):
    def test_nothing_without_a_condition(self):
        self.kind(escalate=1, again=1)
        self.assertEqual(self.do("tick", 100), 0)
        self.see(0, held=0, waited=0, raised=False)

    def test_raised_when_the_count_is_the_delay(self):
        self.kind(rank=2, delay=5)
        self.do("on", 0)
        self.assertEqual(self.do("tick", 4), 0)
        self.see(0, held=4, raised=False)
        self.assertEqual(self.do("tick", 1), 1)
        self.see(0, held=0, raised=True, rank_now=2)
        self.assertEqual(self.log(), [(0, 5, 0, 0, 2)])

    def test_count_stays_0_while_raised(self):
        self.kind(delay=2)
        self.do("on", 0)
        self.assertEqual(self.do("tick", 50), 1)
        self.see(0, held=0)

    def test_longest_delay_in_one_tick(self):
        self.kind(delay=3600)
        self.do("on", 0)
        self.do("tick", 3599)
        self.see(0, raised=False, held=3599)
        self.do("tick", 1)
        self.see(0, raised=True)

    def test_count_begins_anew_behind_off(self):
        self.kind(delay=3)
        self.do("on", 0)
        self.do("tick", 2)
        self.do("off", 0)
        self.do("on", 0)
        self.assertEqual(self.do("tick", 2), 0)
        self.assertEqual(self.do("tick", 1), 1)


class Shelved(TableCase):
    def test_delay_0_is_raised_at_the_very_second(self):
        self.kind()
        self.do("shelve", 0, 10)
        self.do("on", 0)
        self.assertEqual(self.do("tick", 9), 0)
        self.assertEqual(self.do("tick", 1), 1)
        self.assertEqual(self.log(), [(0, 10, 0, 0, 0)])

    def test_count_does_not_grow_at_the_very_second(self):
        self.kind(delay=2)
        self.do("shelve", 0, 10)
        self.do("on", 0)
        self.do("tick", 9)
        self.see(0, held=0)
        self.do("tick", 1)
        self.see(0, held=0)
        self.do("tick", 1)
        self.see(0, held=1, raised=False)
        self.do("tick", 1)
        self.see(0, raised=True)
        self.assertEqual(self.log()[0][1], 12)

    def test_over_the_very_second_in_one_tick(self):
        self.kind(delay=7)
        self.do("shelve", 0, 10)
        self.do("on", 0)
        self.assertEqual(self.do("tick", 16), 0)
        self.see(0, held=6)
        self.assertEqual(self.do("tick", 3), 1)
        self.assertEqual(self.log()[0][1], 17)

    def test_unshelved_counts_from_the_next_second(self):
        self.kind(delay=2)
        self.do("on", 0)
        self.do("shelve", 0, 10)
        self.do("tick", 4)
        self.do("unshelve", 0)
        self.assertEqual(self.do("tick", 1), 0)
        self.see(0, held=1)
        self.assertEqual(self.do("tick", 1), 1)


class Escalate(TableCase):
    def test_grows_up_to_3(self):
        self.kind(escalate=4)
        self.do("on", 0)
        self.assertEqual(self.do("tick", 3), 0)
        self.see(0, waited=3, rank_now=0)
        self.assertEqual(self.do("tick", 1), 1)
        self.see(0, waited=0, rank_now=1)
        self.assertEqual(self.do("tick", 3000), 2)
        self.see(0, waited=0, rank_now=3, rank=0)
        self.assertEqual(self.log()[1:], [(1, 4, 0, 1, 1), (2, 8, 0, 1, 2), (3, 12, 0, 1, 3)])

    def test_escalate_0(self):
        self.kind(again=1)
        self.do("on", 0)
        self.assertEqual(self.do("tick", 3600), 0)
        self.see(0, waited=0, rank_now=0)

    def test_rank_3_does_not_wait(self):
        self.kind(rank=3, escalate=5)
        self.do("on", 0)
        self.assertEqual(self.do("tick", 20), 0)
        self.see(0, waited=0)

    def test_grows_without_its_condition_too(self):
        self.kind(latching=1, escalate=2)
        self.do("on", 0)
        self.do("off", 0)
        self.assertEqual(self.do("tick", 2), 1)

    def test_raised_and_grown_in_one_tick(self):
        self.kind(delay=2, escalate=3)
        self.do("on", 0)
        self.assertEqual(self.do("tick", 5), 2)
        self.assertEqual([(e[1], e[3]) for e in self.log()], [(2, 0), (5, 1)])

    def test_kinds_of_one_second_in_the_order_of_their_numbers(self):
        self.kind(delay=4, escalate=2)
        self.kind(escalate=6)
        self.kind(delay=6)
        self.do("sense", 7)
        self.assertEqual(self.do("tick", 6), 4)
        self.assertEqual([(e[1], e[2], e[3]) for e in self.log()],
                         [(0, 1, 0), (4, 0, 0), (6, 0, 1), (6, 1, 1), (6, 2, 0)])


class Again(TableCase):
    def test_sounds_again(self):
        self.kind(rank=1, again=3)
        self.do("on", 0)
        self.do("ack", 0)
        self.assertEqual(self.do("tick", 2), 0)
        self.see(0, waited=2, acknowledged=True)
        self.assertEqual(self.do("tick", 1), 1)
        self.see(0, waited=0, acknowledged=False)
        self.assertEqual(self.log()[-1], (2, 3, 0, 2, 1))
        self.assertEqual(self.do("tick", 100), 0)

    def test_again_0(self):
        self.kind(escalate=1)
        self.do("on", 0)
        self.do("ack", 0)
        self.assertEqual(self.do("tick", 3600), 0)
        self.see(0, waited=0, acknowledged=True)

    def test_not_without_its_condition(self):
        self.kind(latching=1, again=3)
        self.do("on", 0)
        self.do("ack", 0)
        self.do("tick", 1)
        self.do("off", 0)
        self.assertEqual(self.do("tick", 100), 0)
        self.see(0, waited=1, acknowledged=True)

    def test_rank_3_sounds_again_too(self):
        self.kind(rank=3, again=1)
        self.do("on", 0)
        self.do("ack", 0)
        self.assertEqual(self.do("tick", 1), 1)

    def test_sounds_again_and_grows_in_one_tick(self):
        self.kind(escalate=2, again=3)
        self.do("on", 0)
        self.do("ack", 0)
        self.assertEqual(self.do("tick", 20), 4)
        self.assertEqual([(e[1], e[3], e[4]) for e in self.log()[2:]],
                         [(3, 2, 0), (5, 1, 1), (7, 1, 2), (9, 1, 3)])


class SilenceInTick(TableCase):
    def test_ends_at_its_very_second(self):
        self.kind(rank=1)
        self.do("on", 0)
        self.do("silence", 10)
        self.do("tick", 9)
        self.refused(-10, "silence", 1)
        self.assertEqual(self.silence(), (1, 1))
        self.do("tick", 1)
        self.assertEqual(self.silence(), (0, 0))
        self.assertEqual(self.do("silence", 1), 1)

    def test_growing_to_the_hidden_rank_ends_it(self):
        self.kind(rank=2)
        self.kind(rank=0, escalate=5)
        self.do("on", 0)
        self.do("on", 1)
        self.do("silence", 100)
        self.do("tick", 9)
        self.assertEqual(self.silence(), (91, 2))
        self.do("tick", 1)
        self.assertEqual(self.silence(), (0, 0))

    def test_sounding_again_ends_it(self):
        self.kind(rank=1)
        self.kind(rank=1, again=5)
        self.do("sense", 3)
        self.do("ack", 1)
        self.do("silence", 100)
        self.do("tick", 4)
        self.assertEqual(self.silence(), (96, 1))
        self.do("tick", 1)
        self.assertEqual(self.silence(), (0, 0))

    def test_sounding_again_below_the_hidden_rank_does_not(self):
        self.kind(rank=1)
        self.kind(rank=0, again=5)
        self.do("sense", 3)
        self.do("ack", 1)
        self.do("silence", 100)
        self.do("tick", 5)
        self.assertEqual(self.silence(), (95, 1))


if __name__ == "__main__":
    unittest.main()
