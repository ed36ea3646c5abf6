"""Many made-up lines of calls: the program and the plain table must answer alike and be alike behind each call."""

import random
import unittest

from alarmtable.calls import answer
from alarmtable.state import Table
from alarmtable.table import answers
from tests.helpers import base_of, kind_of, log_of, silence_of
from tests.plain_table import PlainTable

SPANS = (0, 0, 1, 2, 3, 5, 8, 20)
MIXED = (1, 6, 3, 14, 14, 8, 16, 10, 5, 8, 8, 8, 6, 5, 4)
MANY_EVENTS = (1, 3, 3, 4, 4, 40, 16, 4, 25, 6, 4, 20, 6, 5, 4)


def made_up_call(source, weights, kinds, clock):
    """A place and its numbers: mostly fit, now and then out of range."""
    place = source.choices(range(15), weights)[0]
    k = source.randrange(kinds) if kinds and source.random() < 0.97 else source.choice((-1, kinds, 10 ** 18))
    n = source.choice((1, 1, 2, 3, 4, 7, 15, 40)) if source.random() < 0.97 else source.choice((0, -1, 121, 3601))
    if place == 0:
        return place, made_up_kind(source)
    if place in (1, 2):
        return place, [k, source.randrange(-1, kinds + 1)]
    if place == 5:
        wrong = source.random() < 0.03
        return place, [source.choice((2 ** kinds, -1) if wrong else (0, source.randrange(2 ** kinds), 2 ** kinds - 1))]
    if place in (6, 9):
        return place, [n]
    if place == 8:
        return place, [source.randrange(-1, 5)]
    if place == 11:
        return place, []
    if place == 12:
        return place, [k, n]
    if place == 14:
        return place, [clock + source.randrange(-1, 10)]
    return place, [k]


def made_up_kind(source):
    rank = source.choice((0, 0, 1, 1, 2, 3))
    spans = [source.choice(SPANS) for span in range(3)]
    return [rank, source.randrange(2)] + spans + [source.randrange(65536)]


class AgainstPlainTable(unittest.TestCase):
    def compare(self, table, plain):
        self.assertEqual(table.clock, plain.clock)
        self.assertEqual(table.paper.next_number, len(plain.events))
        self.assertEqual(table.first, plain.first)
        self.assertEqual(silence_of(table), plain.silence_left())
        self.assertEqual(log_of(table), plain.log())
        self.assertEqual([kind_of(table, k) for k in range(len(table.kinds))],
                         [plain.kind(k) for k in range(len(plain.kinds))])

    def run_line(self, seed, kinds, calls, weights=MIXED):
        source = random.Random(seed)
        table, plain = Table(), PlainTable()
        handed, given = [], []
        for turn in range(kinds + calls):
            call = (0, made_up_kind(source))
            if turn >= kinds:
                call = made_up_call(source, weights, len(plain.kinds), plain.clock)
            wanted = plain.answer(*call)
            self.assertEqual(answer(table, *call), wanted, (seed, turn, call))
            self.compare(table, plain)
            if turn % 10 == 0:
                self.assertEqual(base_of(table), plain.base())
            handed += [call[0], *call[1]]
            given += [len(wanted), *wanted]
        self.assertEqual(base_of(table), plain.base())
        self.assertEqual(answers(handed), given)
        return plain

    def test_few_kinds(self):
        for seed in range(150):
            self.run_line(seed, 3, 200)

    def test_more_kinds(self):
        for seed in range(30):
            self.run_line(1000 + seed, 9, 300)

    def test_up_to_the_papers_end(self):
        ended = [self.run_line(2000 + seed, 25, 1800, MANY_EVENTS).ended() for seed in range(3)]
        self.assertEqual(ended, [True] * 3)


if __name__ == "__main__":
    unittest.main()
