"""What the tests share: calls by their names, and a look at the whole of a table."""

import unittest

from alarmtable.calls import answer
from alarmtable.state import Table
from alarmtable.table import answers

PLACES = {
    "define": 0, "link": 1, "unlink": 2, "on": 3, "off": 4, "sense": 5, "tick": 6, "ack": 7, "ackTo": 8,
    "silence": 9, "reset": 10, "resetAll": 11, "shelve": 12, "unshelve": 13, "clock": 14,
}


def snapshot(thing):
    """A copy of all that a table holds, to be compared with a later one."""
    if isinstance(thing, (list, tuple)):
        return [snapshot(part) for part in thing]
    if isinstance(thing, dict):
        return [(key, snapshot(part)) for key, part in thing.items()]
    if hasattr(thing, "__dict__"):
        return snapshot(vars(thing))
    return thing


def log_of(table):
    return [(e.number, e.clock, e.kind, e.what, e.rank) for e in table.paper.events]


def base_of(table):
    return [(k, s.raised_by, s.rank, int(s.acknowledged)) for k, s in table.paper.base.items()]


def kind_of(table, k):
    kind = table.kinds[k]
    return (kind.rank, kind.latching, kind.delay, kind.escalate, kind.again, kind.stops,
            int(kind.holds), kind.held, max(0, kind.shelved_to - table.clock), int(kind.raised),
            kind.rank_now, int(kind.acknowledged), kind.waited, kind.raised_by)


def silence_of(table):
    """Seconds that the silence still lasts, and the rank that it hides."""
    left = table.silent_to - table.clock
    return (left, table.hidden_rank) if left > 0 else (0, 0)


class TableCase(unittest.TestCase):
    """A test on one table. At its end, the same calls handed in as one list must be answered alike."""

    def setUp(self):
        self.table = Table()
        self.calls = []
        self.given = []

    def tearDown(self):
        if self.calls:
            self.assertEqual(answers(self.calls), self.given)

    def do(self, name, *numbers):
        answered = answer(self.table, PLACES[name], list(numbers))
        self.calls += [PLACES[name], *numbers]
        self.given += [len(answered), *answered]
        return answered if name == "resetAll" and answered[0] >= 0 else self.only(answered)

    def only(self, answered):
        self.assertEqual(len(answered), 1)
        return answered[0]

    def kind(self, rank=0, latching=0, delay=0, escalate=0, again=0, stops=0):
        return self.do("define", rank, latching, delay, escalate, again, stops)

    def refused(self, number, name, *numbers):
        before = snapshot(self.table)
        self.assertEqual(self.do(name, *numbers), number, (name, numbers))
        self.assertEqual(snapshot(self.table), before, (name, numbers))

    def unchanged(self, number, name, *numbers):
        """Not refused, but nothing changes all the same."""
        self.refused(number, name, *numbers)

    def events(self):
        return [(kind, what, rank) for number, clock, kind, what, rank in log_of(self.table)]

    def raised(self):
        return [kind.number for kind in self.table.kinds if kind.raised]

    def see(self, k, **wanted):
        kind = self.table.kinds[k]
        self.assertEqual({name: getattr(kind, name) for name in wanted}, wanted)

    def fill_paper(self, k, target):
        """Writes events by on and off of a kind without latching or delay, up to the number told."""
        while self.table.paper.next_number < target:
            self.do("off" if self.table.kinds[k].holds else "on", k)
