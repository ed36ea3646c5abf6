"""Promises 17 and 18: sound and stops."""

import unittest

from tests.helpers import TableCase


class Sound(TableCase):
    def test_no_kinds(self):
        self.tells(0, "sound")

    def test_nothing_raised(self):
        self.kind(rank=3, delay=1)
        self.do("on", 0)
        self.tells(0, "sound")

    def test_one_more_than_each_rank(self):
        for rank in range(4):
            self.kind(rank=rank)
            self.do("on", rank)
            self.tells(rank + 1, "sound")
            self.do("off", rank)
            self.tells(0, "sound")

    def test_greatest_of_those_not_acknowledged(self):
        for rank in (1, 3, 2):
            self.kind(rank=rank)
        self.do("sense", 0b111)
        self.tells(4, "sound")
        self.do("ack", 1)
        self.tells(3, "sound")
        self.do("ack", 2)
        self.tells(2, "sound")
        self.do("ack", 0)
        self.tells(0, "sound")

    def test_rank_now(self):
        self.kind(rank=0, escalate=2)
        self.do("on", 0)
        for wanted in (1, 2, 2, 3, 3, 4, 4, 4):
            self.do("tick", 1)
            self.tells(wanted, "sound")

    def test_sounds_again(self):
        self.kind(rank=2, again=2)
        self.do("on", 0)
        self.do("ack", 0)
        self.do("tick", 1)
        self.tells(0, "sound")
        self.do("tick", 1)
        self.tells(3, "sound")

    def test_latched_though_its_condition_is_over(self):
        self.kind(rank=1, latching=1)
        self.do("on", 0)
        self.do("off", 0)
        self.tells(2, "sound")

    def test_very_second_at_which_a_silence_ends(self):
        self.kind(rank=1)
        self.do("on", 0)
        self.do("silence", 5)
        self.tells(0, "sound")
        self.do("tick", 4)
        self.tells(0, "sound")
        self.do("tick", 1)
        self.tells(2, "sound")

    def test_event_of_a_lesser_rank_does_not_end_a_silence(self):
        for rank in (1, 0, 1):
            self.kind(rank=rank)
        self.do("on", 0)
        self.do("silence", 5)
        self.do("on", 1)
        self.tells(0, "sound")
        self.do("on", 2)
        self.tells(2, "sound")

    def test_event_of_a_greater_rank_ends_a_silence(self):
        self.kind(rank=1)
        self.kind(rank=3)
        self.do("on", 0)
        self.do("silence", 5)
        self.do("on", 1)
        self.tells(4, "sound")

    def test_all_32_kinds(self):
        for k in range(32):
            self.kind(rank=3 if k == 31 else k % 3)
        self.do("sense", 2 ** 32 - 1)
        self.tells(4, "sound")
        self.do("off", 31)
        self.tells(3, "sound")


class Stops(TableCase):
    def test_no_kinds(self):
        self.tells(0, "stops")

    def test_nothing_raised(self):
        self.kind(stops=65535, delay=3)
        self.do("on", 0)
        self.tells(0, "stops")
        self.do("tick", 3)
        self.tells(65535, "stops")

    def test_bits_that_two_have(self):
        self.kind(stops=0b0101)
        self.kind(stops=0b0110)
        self.kind(stops=0b1000)
        self.do("sense", 0b011)
        self.tells(0b0111, "stops")
        self.do("off", 0)
        self.tells(0b0110, "stops")
        self.do("on", 2)
        self.tells(0b1110, "stops")
        self.do("sense", 0)
        self.tells(0, "stops")

    def test_in_force_until_reset(self):
        self.kind(latching=1, stops=9)
        self.do("on", 0)
        self.do("silence", 5)
        self.tells(9, "stops")
        self.do("ack", 0)
        self.tells(9, "stops")
        self.do("off", 0)
        self.tells(9, "stops")
        self.do("reset", 0)
        self.tells(0, "stops")

    def test_kind_that_stops_nothing(self):
        self.kind()
        self.do("on", 0)
        self.tells(0, "stops")

    def test_all_32_kinds(self):
        for k in range(32):
            self.kind(stops=1 << k % 16)
        self.do("sense", 0b1111)
        self.tells(15, "stops")
        self.do("sense", 2 ** 32 - 1)
        self.tells(65535, "stops")
        self.do("off", 31)
        self.tells(65535, "stops")
        self.do("off", 15)
        self.tells(32767, "stops")


if __name__ == "__main__":
    unittest.main()
