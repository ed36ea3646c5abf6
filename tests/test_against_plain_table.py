"""Many made-up lines of calls: the program and the plain table must answer alike and be alike behind each call."""

import random
import unittest

from alarmtable.state import Table
from alarmtable.table import answer, answers
from tests.helpers import PLACES
from tests.plain_table import PlainTable

SPANS = (0, 0, 1, 2, 3, 5, 8, 20)
MIXED = (1, 6, 3, 14, 14, 8, 16, 10, 5, 8, 8, 8, 6, 5, 4, 2) + (3,) * 13
MANY_EVENTS = (1, 3, 3, 4, 4, 40, 16, 4, 25, 6, 4, 20, 6, 5, 4, 0) + (1,) * 13
WITHOUT_NUMBERS = ("sound", "stops", "shown", "tally", "first", "time")


def made_up_call(source, weights, kinds, clock):
    """A place and its numbers: mostly fit, now and then out of range."""
    place = source.choices(range(29), weights)[0]
    k = source.randrange(kinds) if kinds and source.random() < 0.97 else source.choice((-1, kinds, 10 ** 18))
    n = source.choice((1, 1, 2, 3, 4, 7, 15, 40)) if source.random() < 0.97 else source.choice((0, -1, 121, 3601))
    if place == 0:
        return place, made_up_kind(source)
    if place in (1, 2, 22):
        return place, [k, source.randrange(-1, kinds + 1)]
    if place == 5:
        wrong = source.random() < 0.03
        return place, [source.choice((2 ** kinds, -1) if wrong else (0, source.randrange(2 ** kinds), 2 ** kinds - 1))]
    if place in (6, 9):
        return place, [n]
    if place == 8:
        return place, [source.randrange(-1, 5)]
    if place == 12:
        return place, [k, n]
    if place == 14:
        return place, [clock + source.randrange(-1, 10)]
    if place == 26:
        return place, [source.choice((-1, 0, 1, n, 5 * n, 50 * n, 10 ** 6, 10 ** 6 + 1))]
    return place, [k] if place in (3, 4, 7, 10, 13, 19, 23, 25) else []


def made_up_kind(source):
    rank = source.choice((0, 0, 1, 1, 2, 3))
    spans = [source.choice(SPANS) for span in range(3)]
    return [rank, source.randrange(2)] + spans + [source.randrange(65536) & source.randrange(65536)]


def flat(calls):
    return [number for place, numbers in calls for number in (place, *numbers)]


def counted(given):
    return [number for answered in given for number in (len(answered), *answered)]


class AgainstPlainTable(unittest.TestCase):
    def same(self, table, plain, name, *numbers):
        call = (PLACES[name], list(numbers))
        self.assertEqual(answer(table, *call), plain.answer(*call), (name, numbers))

    def compare(self, table, plain):
        for name in WITHOUT_NUMBERS:
            self.same(table, plain, name)
        self.same(table, plain, "log", 0)
        for k in range(len(plain.kinds)):
            self.same(table, plain, "kind", k)

    def compare_the_rest(self, table, plain):
        self.same(table, plain, "base")
        self.same(table, plain, "order")
        for k in range(len(plain.kinds)):
            self.same(table, plain, "behind", k)
            self.same(table, plain, "why", k)

    def made_up_line(self, seed, kinds, calls, weights):
        """The calls, and what both tables answer."""
        source = random.Random(seed)
        table, plain = Table(), PlainTable()
        handed, given = [], []
        for turn in range(kinds + calls):
            call = (0, made_up_kind(source))
            if turn >= kinds:
                call = made_up_call(source, weights, len(plain.kinds), plain.clock)
            if plain.ended() and source.random() < 0.2:
                call = (PLACES["renew"], [])
            given.append(plain.answer(*call))
            self.assertEqual(answer(table, *call), given[-1], (seed, turn, call))
            self.compare(table, plain)
            if turn % 10 == 0:
                self.compare_the_rest(table, plain)
            handed.append(call)
        self.compare_the_rest(table, plain)
        return handed, given

    def run_line(self, seed, kinds, calls, weights=MIXED):
        handed, given = self.made_up_line(seed, kinds, calls, weights)
        self.assertEqual(answers(flat(handed)), counted(given))
        left = [turn for turn, answered in enumerate(given) if answered[0] >= 0 and handed[turn][0] < PLACES["sound"]]
        self.assertEqual(answers(flat([handed[turn] for turn in left])), counted([given[turn] for turn in left]),
                         "without the refused calls, and without those that only ask")
        return handed, given

    def test_few_kinds(self):
        for seed in range(150):
            self.run_line(seed, 3, 200)

    def test_more_kinds(self):
        for seed in range(30):
            self.run_line(1000 + seed, 9, 300)

    def test_beyond_the_papers_end(self):
        for seed in range(3):
            handed, given = self.run_line(2000 + seed, 25, 1800, MANY_EVENTS)
            self.assertIn([-2], given)
            self.assertIn((PLACES["renew"], []), handed)


if __name__ == "__main__":
    unittest.main()
