"""What can be asked behind each call that changes something: just what is named is another answer than before."""

import unittest

from tests.helpers import PLACES, TableCase, snapshot

RAISED_2 = [0, 10, 2, 0, 0]
RAISED_0 = [1, 10, 0, 0, 1]
RAISED_1 = [2, 12, 1, 0, 2]
ACK_1 = [3, 12, 1, 3, 2]
ACK_2 = [4, 12, 2, 3, 0]
RESET_2 = [5, 12, 2, 5, 0]
WENT_1 = [6, 12, 1, 4, 2]
GREW_0 = [7, 13, 0, 1, 2]
ACK_0 = [8, 13, 0, 3, 2]
RESET_0 = [9, 13, 0, 5, 2]
EVENTS = (RAISED_2, RAISED_0, RAISED_1, ACK_1, ACK_2, RESET_2, WENT_1, GREW_0, ACK_0, RESET_0)
DEFINED_0 = [1, 1, 0, 3, 4, 5]
DEFINED_1 = [2, 0, 2, 0, 0, 6]
DEFINED_2 = [0, 1, 0, 0, 0, 8]


def log(many):
    return [many] + [number for event in EVENTS[:many] for number in event]


class BehindEachCall(TableCase):
    def test_from_define_to_renew(self):
        self.from_define_to_clock()
        self.from_shelve_to_silence()
        self.from_tick_to_sense()
        self.from_reset_to_renew()

    def from_define_to_clock(self):
        self.step(0, "define", *DEFINED_0, kind0=DEFINED_0 + [0] * 8, behind0=[0], why0=-6)
        self.step(1, "define", *DEFINED_1, kind1=DEFINED_1 + [0] * 8, behind1=[0], why1=-6)
        self.step(2, "define", *DEFINED_2, kind2=DEFINED_2 + [0] * 8, behind2=[0], why2=-6)
        self.step(1, "link", 2, 0, behind0=[1, 2])
        self.step(1, "link", 0, 1, behind1=[2, 0, 2])
        self.step(0, "link", 0, 1)
        self.step(1, "unlink", 0, 1, behind1=[0])
        self.step(0, "unlink", 0, 1)
        self.step(1, "link", 0, 1, behind1=[2, 0, 2])
        self.step(10, "clock", 10, time=[10, 0, 0, 0])

    def from_shelve_to_silence(self):
        self.step(1, "shelve", 0, 5, kind0=DEFINED_0 + [0, 0, 5, 0, 0, 0, 0, 0])
        self.step(1, "on", 0, kind0=DEFINED_0 + [1, 0, 5, 0, 0, 0, 0, 0])
        self.step(2, "on", 2, sound=1, stops=8, shown=[1, 2, 0, 0, 1], tally=[1, 0, 0, 0, 1], first=3, order=[1, 2],
                  kind2=DEFINED_2 + [1, 0, 0, 1, 0, 0, 0, 0], why2=[1, 1, 0], log=log(1), time=[10, 1, 0, 0])
        self.step(2, "unshelve", 0, sound=2, stops=13, shown=[2, 0, 1, 0, 1, 2, 0, 0, 1], tally=[1, 1, 0, 0, 2],
                  order=[2, 2, 0], kind0=DEFINED_0 + [1, 0, 0, 1, 1, 0, 0, 1], why0=[1, 1, 1, 2], log=log(2),
                  time=[10, 2, 0, 0])
        self.step(0, "unshelve", 0)
        self.step(1, "silence", 20, sound=0, time=[10, 2, 20, 1])
        self.step(0, "on", 2)

    def from_tick_to_sense(self):
        self.step(1, "on", 1, kind1=DEFINED_1 + [1, 0, 0, 0, 0, 0, 0, 0])
        self.step(0, "tick", 1, kind0=DEFINED_0 + [1, 0, 0, 1, 1, 0, 1, 1], kind1=DEFINED_1 + [1, 1, 0, 0, 0, 0, 0, 0],
                  time=[11, 2, 19, 1])
        self.step(1, "tick", 1, sound=3, stops=15, shown=[3, 1, 2, 0, 1, 0, 1, 0, 1, 2, 0, 0, 1],
                  tally=[1, 1, 1, 0, 3], order=[3, 2, 0, 1], kind0=DEFINED_0 + [1, 0, 0, 1, 1, 0, 2, 1],
                  kind1=DEFINED_1 + [1, 0, 0, 1, 2, 0, 0, 2], why1=[1, 1, 2, 0, 2], log=log(3), time=[12, 3, 0, 0])
        self.step(1, "ack", 1, sound=2, shown=[3, 0, 1, 0, 1, 2, 0, 0, 1, 1, 2, 1, 1], tally=[1, 1, 1, 0, 2],
                  kind1=DEFINED_1 + [1, 0, 0, 1, 2, 1, 0, 2], why1=[1, 0, 2, 0, 2], log=log(4), time=[12, 4, 0, 0])
        self.step(0, "ack", 1)
        self.step(1, "ackTo", 0, shown=[3, 0, 1, 0, 1, 1, 2, 1, 1, 2, 0, 1, 1], tally=[1, 1, 1, 0, 1],
                  kind2=DEFINED_2 + [1, 0, 0, 1, 0, 1, 0, 0], why2=[1, 0, 0], log=log(5), time=[12, 5, 0, 0])
        self.step(0, "sense", 0b010, shown=[3, 0, 1, 0, 0, 1, 2, 1, 1, 2, 0, 1, 0], why0=[0, 1, 1, 2], why2=[0, 0, 0],
                  kind0=DEFINED_0 + [0, 0, 0, 1, 1, 0, 2, 1], kind2=DEFINED_2 + [0, 0, 0, 1, 0, 1, 0, 0])

    def from_reset_to_renew(self):
        self.step(1, "reset", 2, stops=7, shown=[2, 0, 1, 0, 0, 1, 2, 1, 1], tally=[0, 1, 1, 0, 1], order=[2, 0, 1],
                  kind2=DEFINED_2 + [0] * 8, why0=[0, 1, 0], why1=[1, 0, 1, 0], why2=-6, log=log(6),
                  time=[12, 6, 0, 0])
        self.step(2, "off", 1, stops=5, shown=[1, 0, 1, 0, 0], tally=[0, 1, 0, 0, 1], order=[1, 0],
                  kind1=DEFINED_1 + [0] * 8, why1=-6, log=log(7), time=[12, 7, 0, 0])
        self.step(0, "off", 1)
        self.step([0], "resetAll")
        self.step(1, "tick", 1, sound=3, shown=[1, 0, 2, 0, 0], tally=[0, 0, 1, 0, 1],
                  kind0=DEFINED_0 + [0, 0, 0, 1, 2, 0, 0, 1], log=log(8), time=[13, 8, 0, 0])
        self.step(1, "ack", 0, sound=0, shown=[1, 0, 2, 1, 0], tally=[0, 0, 1, 0, 0], why0=[0, 0, 0],
                  kind0=DEFINED_0 + [0, 0, 0, 1, 2, 1, 0, 1], log=log(9), time=[13, 9, 0, 0])
        self.step([1, 0], "resetAll", stops=0, shown=[0], tally=[0] * 5, first=0, order=[0], why0=-6,
                  kind0=DEFINED_0 + [0] * 8, log=log(10), time=[13, 10, 0, 0])
        self.step(0, "renew", log=[0], time=[13, 0, 0, 0])

    def test_log_that_is_full(self):
        self.kind(rank=1, stops=4)
        self.kind(rank=2, stops=2)
        self.do("on", 1)
        self.fill_paper(0, 64)
        full = self.do("log", 0)
        self.step(1, "ack", 1, sound=2, shown=[2, 0, 1, 0, 1, 1, 2, 1, 1], tally=[0, 1, 1, 0, 1],
                  kind1=[2, 0, 0, 0, 0, 2, 1, 0, 0, 1, 2, 1, 0, 0], why1=[1, 0, 0],
                  log=[64] + full[6:] + [64, 0, 1, 3, 2], base=[1, 1, 0, 2, 0], time=[0, 65, 0, 0])

    def test_silence_and_shelving_that_end_in_the_same_second(self):
        self.kind(rank=1, stops=1)
        self.kind(rank=0, stops=2)
        self.do("on", 0)
        self.do("shelve", 1, 6)
        self.do("on", 1)
        self.do("silence", 6)
        self.step(0, "tick", 5, time=[5, 1, 1, 1], kind1=[0, 0, 0, 0, 0, 2, 1, 0, 1, 0, 0, 0, 0, 0])
        self.step(1, "tick", 1, sound=2, stops=3, shown=[2, 0, 1, 0, 1, 1, 0, 0, 1], tally=[1, 1, 0, 0, 2],
                  order=[2, 0, 1], kind1=[0, 0, 0, 0, 0, 2, 1, 0, 0, 1, 0, 0, 0, 1], why1=[1, 1, 0],
                  log=[2, 0, 0, 0, 0, 1, 1, 6, 1, 0, 0], time=[6, 2, 0, 0])


REFUSED = (
    (-1, "define", 4, 0, 0, 0, 0, 0), (-3, "define", 0, 0, 0, 0, 0, 0), (-1, "link", 0, 32), (-4, "link", 1, 0),
    (-4, "link", 0, 0), (-1, "unlink", -1, 0), (-1, "on", 32), (-1, "off", -1), (-1, "sense", 2 ** 32), (-1, "tick", 0),
    (-1, "ack", 32), (-6, "ack", 0), (-1, "ackTo", 4), (-1, "silence", 0), (-10, "silence", 120),
    (-1, "silence", 121), (-1, "reset", 32), (-6, "reset", 0), (-7, "reset", 4), (-8, "reset", 3), (-9, "reset", 2),
    (-1, "shelve", 0, 0), (-1, "shelve", 3, 3601), (-11, "shelve", 3, 1), (-12, "shelve", 1, 1), (-1, "unshelve", 32),
    (-1, "clock", 1000000001), (-13, "clock", 0), (-14, "clock", 99), (-1, "kind", 32), (-1, "before", 0, 32),
    (-1, "before", -1, 0), (-1, "behind", 32), (-1, "why", 32), (-6, "why", 0), (-1, "log", -1), (-1, "log", 1000001),
)


class Refused(TableCase):
    def setUp(self):
        super().setUp()
        for rank in (0, 1, 1, 2, 2) + (0,) * 27:
            self.kind(rank=rank, latching=1, delay=0, escalate=50, again=50, stops=rank)
        self.do("link", 0, 1)
        self.do("link", 1, 2)
        self.do("clock", 1)
        self.do("sense", 0b11110)
        self.do("ack", 1)
        self.do("ack", 2)
        self.do("ack", 4)
        self.do("sense", 0b10000)
        self.do("silence", 100)
        self.do("shelve", 31, 100)
        self.do("tick", 3)

    def test_each_leaves_all_answers_as_they_were(self):
        for number, name, *numbers in REFUSED:
            self.refused(number, name, *numbers)
            self.step(number, name, *numbers)

    def test_at_the_papers_end(self):
        self.fill_by_hand()
        for name, numbers in (("on", [0]), ("off", [4]), ("sense", [0]), ("tick", [1]), ("ack", [3]), ("ackTo", [3]),
                              ("reset", [1]), ("resetAll", []), ("unshelve", [31])):
            self.refused(-2, name, *numbers)
            self.step(-2, name, *numbers)
        for name, numbers in (("on", [32]), ("off", [-1]), ("sense", [-1]), ("tick", [3601]), ("ack", [32]),
                              ("ackTo", [-1]), ("reset", [32]), ("unshelve", [32])):
            self.step(-1, name, *numbers)

    def test_two_refusals_at_once_beside_the_last_second(self):
        self.do("sense", 0)
        self.do("ackTo", 3)
        self.do("resetAll")
        self.do("clock", 1000000000)
        self.step(-5, "tick", 1)
        self.step(-1, "tick", 3601)
        self.do("sense", 0b11110)
        self.step(-13, "clock", 999999999)
        self.step(-14, "clock", 1000000000)

    def fill_by_hand(self):
        while self.do("time")[1] < 2000:
            self.do("sense", 0b11110)
            self.do("ackTo", 3)
            self.do("sense", 0b10000)

    def test_those_that_only_ask_change_nothing(self):
        before = snapshot(self.table)
        for k in range(32):
            for name in ("kind", "behind", "why"):
                self.do(name, k)
            self.do("before", k, 31 - k)
        for name in PLACES:
            if PLACES[name] >= 16 and name not in ("kind", "before", "behind", "why"):
                self.do(name, *([0] if name == "log" else []))
        self.assertEqual(snapshot(self.table), before)


if __name__ == "__main__":
    unittest.main()
