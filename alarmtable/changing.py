"""The calls at the places 0 to 15, which change the table.

Each takes the table and its numbers, and gives back the numbers it answers.
"""

from alarmtable.alarms import acknowledge, end_condition, raise_kind, reset_kind, sound_level, start_condition
from alarmtable.paper import Paper
from alarmtable.ranges import has_kind, within
from alarmtable.refusals import ALREADY_RAISED, CLOCK_GOES_BACK, CLOCK_TOO_FAR, LINK_IN_A_CIRCLE, NOT_RAISED
from alarmtable.refusals import NOTHING_SOUNDS, OUT_OF_RANGE, PAPER_AT_END, RANK_TOO_GRAVE, TABLE_NOT_AT_REST
from alarmtable.refusals import TOO_MANY_KINDS
from alarmtable.resets import next_to_reset, reset_refusal
from alarmtable.seconds import pass_seconds
from alarmtable.state import Kind, is_shelved, raised_in_turn, raised_kinds

DEFINITION_RANGES = ((0, 3), (0, 1), (0, 3600), (0, 3600), (0, 3600), (0, 65535))
MOST_KINDS = 32
LAST_SECOND = 1000000000
GRAVEST_SHELVED = 1


# 0 where nothing stands against it. Asked once, ahead of all a call does: what has begun writes all its events.
def writing_refusal(table, in_range):
    if not in_range:
        return OUT_OF_RANGE
    if table.paper.at_end():
        return PAPER_AT_END
    return 0


def define(table, numbers):
    for number, bounds in zip(numbers, DEFINITION_RANGES):
        if not within(number, bounds[0], bounds[1]):
            return [OUT_OF_RANGE]
    k = len(table.kinds)
    if k >= MOST_KINDS:
        return [TOO_MANY_KINDS]
    table.kinds.append(Kind(k, numbers))
    return [k]


def link(table, numbers):
    a = numbers[0]
    b = numbers[1]
    if not has_kind(table, a) or not has_kind(table, b):
        return [OUT_OF_RANGE]
    if a == b or b in table.links.all_before(a):
        return [LINK_IN_A_CIRCLE]
    return [table.links.put(a, b)]


def unlink(table, numbers):
    a = numbers[0]
    b = numbers[1]
    if not has_kind(table, a) or not has_kind(table, b):
        return [OUT_OF_RANGE]
    return [table.links.take_away(a, b)]


def on(table, numbers):
    k = numbers[0]
    refusal = writing_refusal(table, has_kind(table, k))
    if refusal < 0:
        return [refusal]
    return [start_condition(table, table.kinds[k])]


def off(table, numbers):
    k = numbers[0]
    refusal = writing_refusal(table, has_kind(table, k))
    if refusal < 0:
        return [refusal]
    return [end_condition(table, table.kinds[k])]


def sense(table, numbers):
    m = numbers[0]
    refusal = writing_refusal(table, m >= 0 and m.bit_length() <= len(table.kinds))
    if refusal < 0:
        return [refusal]
    next_before = table.paper.next_number
    for kind in table.kinds:
        if (m >> kind.number) & 1 == 1:
            start_condition(table, kind)
        else:
            end_condition(table, kind)
    return [table.paper.next_number - next_before]


def tick(table, numbers):
    n = numbers[0]
    refusal = writing_refusal(table, within(n, 1, 3600))
    if refusal < 0:
        return [refusal]
    if table.clock + n > LAST_SECOND:
        return [CLOCK_TOO_FAR]
    next_before = table.paper.next_number
    pass_seconds(table, n)
    return [table.paper.next_number - next_before]


def ack(table, numbers):
    k = numbers[0]
    refusal = writing_refusal(table, has_kind(table, k))
    if refusal < 0:
        return [refusal]
    kind = table.kinds[k]
    if not kind.raised:
        return [NOT_RAISED]
    if kind.acknowledged:
        return [0]
    acknowledge(table, kind)
    return [1]


def ack_to(table, numbers):
    rank = numbers[0]
    refusal = writing_refusal(table, within(rank, 0, 3))
    if refusal < 0:
        return [refusal]
    calling = [kind for kind in raised_kinds(table) if not kind.acknowledged and kind.rank_now <= rank]
    for kind in calling:
        acknowledge(table, kind)
    return [len(calling)]


def silence(table, numbers):
    n = numbers[0]
    if not within(n, 1, 120):
        return [OUT_OF_RANGE]
    level = sound_level(table)
    if level == 0:
        return [NOTHING_SOUNDS]
    table.silent_to = table.clock + n
    table.hidden_rank = level - 1
    return [table.hidden_rank]


def reset(table, numbers):
    k = numbers[0]
    refusal = writing_refusal(table, has_kind(table, k))
    if refusal < 0:
        return [refusal]
    kind = table.kinds[k]
    refusal = reset_refusal(table, kind)
    if refusal < 0:
        return [refusal]
    reset_kind(table, kind)
    return [1]


def reset_all(table, numbers):
    if table.paper.at_end():
        return [PAPER_AT_END]
    done = []
    kind = next_to_reset(table)
    while kind is not None:
        reset_kind(table, kind)
        done.append(kind.number)
        kind = next_to_reset(table)
    return [len(done)] + done


def shelve(table, numbers):
    k = numbers[0]
    n = numbers[1]
    if not has_kind(table, k) or not within(n, 1, 3600):
        return [OUT_OF_RANGE]
    kind = table.kinds[k]
    if kind.rank > GRAVEST_SHELVED:
        return [RANK_TOO_GRAVE]
    if kind.raised:
        return [ALREADY_RAISED]
    kind.shelved_to = table.clock + n
    kind.held = 0
    return [1]


def unshelve(table, numbers):
    k = numbers[0]
    refusal = writing_refusal(table, has_kind(table, k))
    if refusal < 0:
        return [refusal]
    kind = table.kinds[k]
    if not is_shelved(table, kind):
        return [0]
    kind.shelved_to = table.clock
    if kind.holds and kind.delay == 0:
        raise_kind(table, kind)
        return [2]
    return [1]


def set_clock(table, numbers):
    t = numbers[0]
    if not within(t, 0, LAST_SECOND):
        return [OUT_OF_RANGE]
    if t < table.clock:
        return [CLOCK_GOES_BACK]
    if any([kind.holds or kind.raised for kind in table.kinds]):
        return [TABLE_NOT_AT_REST]
    table.clock = t
    return [t]


def renew(table, numbers):
    raised = raised_in_turn(table)
    table.paper = Paper()
    for kind in raised:
        kind.raised_by = table.paper.carry_over(kind.number, kind.rank_now, kind.acknowledged)
    return [len(raised)]


CALLS = {
    0: define,
    1: link,
    2: unlink,
    3: on,
    4: off,
    5: sense,
    6: tick,
    7: ack,
    8: ack_to,
    9: silence,
    10: reset,
    11: reset_all,
    12: shelve,
    13: unshelve,
    14: set_clock,
    15: renew,
}


def change(table, place, numbers):
    return CALLS[place](table, numbers)
