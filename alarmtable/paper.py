"""The paper: its numbered events, of which the newest are kept, and the base on which these stand."""

RAISED = 0
GREW = 1
SOUNDED_AGAIN = 2
ACKNOWLEDGED = 3
WENT = 4
RESET = 5

MOST_KEPT = 64
END_NUMBER = 2000


class Event:
    def __init__(self, number, clock, kind, what, rank):
        self.number = number
        self.clock = clock
        self.kind = kind
        self.what = what
        self.rank = rank


class Standing:
    def __init__(self, raised_by, rank, acknowledged):
        self.raised_by = raised_by
        self.rank = rank
        self.acknowledged = acknowledged


class Paper:
    def __init__(self):
        self.next_number = 0
        self.events = []
        # By kind; a dict's keys keep the order in which the kinds were raised.
        self.base = {}

    def at_end(self):
        return self.next_number >= END_NUMBER

    def take_number(self):
        number = self.next_number
        self.next_number = number + 1
        return number

    # For a kind that is raised already when the paper is new: it takes an event's number, but there is no event.
    def carry_over(self, kind, rank, acknowledged):
        number = self.take_number()
        self.base[kind] = Standing(number, rank, acknowledged)
        return number

    def write(self, clock, kind, what, rank):
        number = self.take_number()
        self.events.append(Event(number, clock, kind, what, rank))
        if len(self.events) > MOST_KEPT:
            self.move_into_base(self.events.pop(0))
        return number

    def move_into_base(self, event):
        if event.what == RAISED:
            self.base[event.kind] = Standing(event.number, event.rank, False)
        elif event.what == WENT or event.what == RESET:
            self.base.pop(event.kind)
        else:
            standing = self.base[event.kind]
            standing.rank = event.rank
            # A rank grows only while nobody has acknowledged it, so one question does for all three events.
            standing.acknowledged = event.what == ACKNOWLEDGED
