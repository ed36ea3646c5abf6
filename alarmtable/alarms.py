"""What happens to a kind, each time with its event: raised, graver, sounding again, acknowledged, gone, reset."""

from alarmtable.paper import ACKNOWLEDGED, GREW, RAISED, RESET, SOUNDED_AGAIN, WENT
from alarmtable.state import is_shelved, is_silent, raised_kinds


def write_event(table, kind, what):
    if what in (RAISED, GREW, SOUNDED_AGAIN) and kind.rank_now >= table.hidden_rank:
        table.silent_to = 0
        table.hidden_rank = 0
    return table.paper.write(table.clock, kind.number, what, kind.rank_now)


def raise_kind(table, kind):
    kind.raised = True
    kind.rank_now = kind.rank
    kind.acknowledged = False
    kind.waited = 0
    kind.held = 0
    kind.raised_by = write_event(table, kind, RAISED)
    if table.first is None:
        table.first = kind.number


def grow_rank(table, kind):
    kind.rank_now += 1
    kind.waited = 0
    write_event(table, kind, GREW)


def sound_again(table, kind):
    kind.acknowledged = False
    kind.waited = 0
    write_event(table, kind, SOUNDED_AGAIN)


def acknowledge(table, kind):
    kind.acknowledged = True
    kind.waited = 0
    write_event(table, kind, ACKNOWLEDGED)


def go_by_itself(table, kind):
    write_event(table, kind, WENT)
    lower(table, kind)


def reset_kind(table, kind):
    write_event(table, kind, RESET)
    lower(table, kind)
    kind.held = 0


# The event is written ahead of this, as it tells the rank that is lost here.
def lower(table, kind):
    kind.raised = False
    kind.rank_now = 0
    kind.acknowledged = False
    kind.waited = 0
    kind.raised_by = 0
    if len(raised_kinds(table)) == 0:
        table.first = None


def start_condition(table, kind):
    if kind.holds:
        return 0
    kind.holds = True
    if not kind.raised:
        kind.held = 0
        if kind.delay > 0 or is_shelved(table, kind):
            return 1
        raise_kind(table, kind)
        return 2
    if kind.acknowledged:
        sound_again(table, kind)
        return 2
    return 1


def end_condition(table, kind):
    if not kind.holds:
        return 0
    kind.holds = False
    if not kind.raised:
        kind.held = 0
        return 1
    if kind.latching == 1:
        return 1
    go_by_itself(table, kind)
    return 2


def sound_level(table):
    if is_silent(table):
        return 0
    loud = [kind.rank_now for kind in raised_kinds(table) if not kind.acknowledged]
    return max(loud, default=-1) + 1
