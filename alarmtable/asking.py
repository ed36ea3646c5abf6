"""The calls at the places 16 to 28, which tell what is and change nothing.

Each takes the table and its numbers, and gives back the numbers it answers.
"""

from alarmtable.alarms import sound_level
from alarmtable.ranges import has_kind, within
from alarmtable.refusals import NOT_RAISED, OUT_OF_RANGE
from alarmtable.resets import raised_before, reset_order
from alarmtable.state import is_silent, raised_in_turn, raised_kinds

GREATEST_ASKED = 1000000
RANKS = (0, 1, 2, 3)


def counted(numbers):
    return [len(numbers)] + numbers


def tell_sound(table, numbers):
    return [sound_level(table)]


def tell_stops(table, numbers):
    in_force = 0
    for kind in raised_kinds(table):
        in_force = in_force | kind.stops
    return [in_force]


def tell_shown(table, numbers):
    shown = sorted(raised_in_turn(table), key=urgency)
    told = [len(shown)]
    for kind in shown:
        told.extend([kind.number, kind.rank_now, int(kind.acknowledged), int(kind.holds)])
    return told


# The most urgent has the least; those alike in this stay in the order in which they were raised.
def urgency(kind):
    return (int(kind.acknowledged), -kind.rank_now)


def tell_kind(table, numbers):
    k = numbers[0]
    if not has_kind(table, k):
        return [OUT_OF_RANGE]
    kind = table.kinds[k]
    defined = [kind.rank, kind.latching, kind.delay, kind.escalate, kind.again, kind.stops]
    condition = [int(kind.holds), kind.held, max(0, kind.shelved_to - table.clock)]
    alarm = [int(kind.raised), kind.rank_now, int(kind.acknowledged), kind.waited, kind.raised_by]
    return defined + condition + alarm


def tell_tally(table, numbers):
    raised = raised_kinds(table)
    ranks = [kind.rank_now for kind in raised]
    calling = [kind for kind in raised if not kind.acknowledged]
    return [ranks.count(rank) for rank in RANKS] + [len(calling)]


def tell_first(table, numbers):
    return [0 if table.first is None else table.first + 1]


def tell_before(table, numbers):
    a = numbers[0]
    b = numbers[1]
    if not has_kind(table, a) or not has_kind(table, b):
        return [OUT_OF_RANGE]
    return [int(a in table.links.all_before(b))]


def tell_behind(table, numbers):
    k = numbers[0]
    if not has_kind(table, k):
        return [OUT_OF_RANGE]
    return counted(table.links.all_before(k))


def tell_order(table, numbers):
    return counted(reset_order(table))


def tell_why(table, numbers):
    k = numbers[0]
    if not has_kind(table, k):
        return [OUT_OF_RANGE]
    kind = table.kinds[k]
    if not kind.raised:
        return [NOT_RAISED]
    return [int(kind.holds), int(not kind.acknowledged)] + counted(raised_before(table, k))


def tell_log(table, numbers):
    n = numbers[0]
    if not within(n, 0, GREATEST_ASKED):
        return [OUT_OF_RANGE]
    asked = [event for event in table.paper.events if event.number >= n]
    told = [len(asked)]
    for event in asked:
        told.extend([event.number, event.clock, event.kind, event.what, event.rank])
    return told


def tell_base(table, numbers):
    base = table.paper.base
    told = [len(base)]
    for k in base:
        standing = base[k]
        told.extend([k, standing.raised_by, standing.rank, int(standing.acknowledged)])
    return told


def tell_time(table, numbers):
    told = [table.clock, table.paper.next_number]
    if is_silent(table):
        return told + [table.silent_to - table.clock, table.hidden_rank]
    return told + [0, 0]


CALLS = {
    16: tell_sound,
    17: tell_stops,
    18: tell_shown,
    19: tell_kind,
    20: tell_tally,
    21: tell_first,
    22: tell_before,
    23: tell_behind,
    24: tell_order,
    25: tell_why,
    26: tell_log,
    27: tell_base,
    28: tell_time,
}


def tell(table, place, numbers):
    return CALLS[place](table, numbers)
