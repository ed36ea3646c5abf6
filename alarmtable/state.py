"""What a table keeps: its kinds, its links, its clock, its paper and its silence."""

from alarmtable.links import Links
from alarmtable.paper import Paper


class Kind:
    def __init__(self, number, definition):
        self.number = number
        self.rank = definition[0]
        self.latching = definition[1]
        self.delay = definition[2]
        self.escalate = definition[3]
        self.again = definition[4]
        self.stops = definition[5]
        self.holds = False
        self.held = 0
        self.shelved_to = 0
        self.raised = False
        self.rank_now = 0
        self.acknowledged = False
        self.waited = 0
        self.raised_by = 0


class Table:
    def __init__(self):
        self.kinds = []
        self.links = Links()
        self.clock = 0
        self.paper = Paper()
        # The clock never goes back, so there is a silence just while the clock is below this second.
        self.silent_to = 0
        self.hidden_rank = 0
        self.first = None


def is_silent(table):
    return table.clock < table.silent_to


def is_shelved(table, kind):
    return table.clock < kind.shelved_to


def raised_kinds(table):
    return [kind for kind in table.kinds if kind.raised]


def raising_number(kind):
    return kind.raised_by


# Events are numbered in the order in which they come, so the number of the event that raised a kind tells its turn.
def raised_in_turn(table):
    return sorted(raised_kinds(table), key=raising_number)
