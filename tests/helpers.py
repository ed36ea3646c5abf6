"""What the tests share: calls by their names, and a look at the whole of a table."""

import unittest

from alarmtable.state import Table
from alarmtable.table import answer, answers

PLACES = {
    "define": 0, "link": 1, "unlink": 2, "on": 3, "off": 4, "sense": 5, "tick": 6, "ack": 7, "ackTo": 8,
    "silence": 9, "reset": 10, "resetAll": 11, "shelve": 12, "unshelve": 13, "clock": 14, "renew": 15, "sound": 16,
    "stops": 17, "shown": 18, "kind": 19, "tally": 20, "first": 21, "before": 22, "behind": 23, "order": 24,
    "why": 25, "log": 26, "base": 27, "time": 28,
}
LISTS = ("resetAll", "shown", "kind", "tally", "behind", "order", "why", "log", "base", "time")


def snapshot(thing):
    """A copy of all that a table holds, to be compared with a later one."""
    if isinstance(thing, (list, tuple)):
        return [snapshot(part) for part in thing]
    if isinstance(thing, dict):
        return [(key, snapshot(part)) for key, part in thing.items()]
    if hasattr(thing, "__dict__"):
        return snapshot(vars(thing))
    return thing


class TableCase(unittest.TestCase):
    """A test on one table. At its end, the same calls handed in as one list must be answered alike."""

    def setUp(self):
        self.table = Table()
        self.calls = []
        self.given = []

    def tearDown(self):
        if self.calls:
            self.assertEqual(answers(self.calls), self.given)

    def do(self, name, *numbers):
        """Answers a list where the call tells several numbers, else one number. What only asks must change nothing."""
        if PLACES[name] < PLACES["sound"]:
            return self.call(name, *numbers)
        before = snapshot(self.table)
        answered = self.call(name, *numbers)
        self.assertEqual(snapshot(self.table), before, (name, numbers))
        return answered

    def call(self, name, *numbers):
        answered = answer(self.table, PLACES[name], list(numbers))
        self.calls += [PLACES[name], *numbers]
        self.given += [len(answered), *answered]
        return answered if name in LISTS and answered[0] >= 0 else self.only(answered)

    def only(self, answered):
        self.assertEqual(len(answered), 1)
        return answered[0]

    def kind(self, rank=0, latching=0, delay=0, escalate=0, again=0, stops=0):
        return self.do("define", rank, latching, delay, escalate, again, stops)

    def refused(self, number, name, *numbers):
        before = snapshot(self.table)
        self.assertEqual(self.do(name, *numbers), number, (name, numbers))
        self.assertEqual(snapshot(self.table), before, (name, numbers))

    def unchanged(self, number, name, *numbers):
        """Not refused, but nothing changes all the same."""
        self.refused(number, name, *numbers)

    def tells(self, wanted, name, *numbers):
        self.assertEqual(self.do(name, *numbers), wanted, (name, numbers))

    def whole(self):
        """All that can be asked, each answer by the call's name and its number."""
        names = ("sound", "stops", "shown", "tally", "first", "order", "base", "time")
        before = snapshot(self.table)
        told = {name: self.call(name) for name in names}
        told["log"] = self.call("log", 0)
        for k in range(len(self.table.kinds)):
            for name in ("kind", "behind", "why"):
                told[name + str(k)] = self.call(name, k)
        self.assertEqual(snapshot(self.table), before)
        return told

    def step(self, wanted, name, *numbers, **changed):
        """A call, its answer, and just those answers of all that can be asked that are others behind it."""
        before = self.whole()
        self.tells(wanted, name, *numbers)
        now = self.whole()
        self.assertEqual({key: now[key] for key in now if now[key] != before.get(key)}, changed, (name, numbers))

    def log(self):
        told = self.do("log", 0)
        return [tuple(told[at:at + 5]) for at in range(1, len(told), 5)]

    def silence(self):
        """Seconds that the silence still lasts, and the rank that it hides."""
        return tuple(self.do("time")[2:])

    def events(self):
        return [(kind, what, rank) for number, clock, kind, what, rank in self.log()]

    def raised(self):
        return [kind.number for kind in self.table.kinds if kind.raised]

    def see(self, k, **wanted):
        kind = self.table.kinds[k]
        self.assertEqual({name: getattr(kind, name) for name in wanted}, wanted)

    def fill_paper(self, k, target):
        """Writes events by on and off of a kind without latching or delay, up to the number told."""
        while self.table.paper.next_number < target:
            self.do("off" if self.table.kinds[k].holds else "on", k)
