"""Which raised kinds may be reset, which one is next, and the order of resets."""

from alarmtable.refusals import CONDITION_HOLDS, NOT_ACKNOWLEDGED, NOT_RAISED, OTHERS_COME_BEFORE
from alarmtable.state import raised_kinds


def raised_before(table, k):
    return [a for a in table.links.all_before(k) if table.kinds[a].raised]


# 0 where nothing stands against it.
def reset_refusal(table, kind):
    if not kind.raised:
        return NOT_RAISED
    if kind.holds:
        return CONDITION_HOLDS
    if not kind.acknowledged:
        return NOT_ACKNOWLEDGED
    if len(raised_before(table, kind.number)) > 0:
        return OTHERS_COME_BEFORE
    return 0


def next_to_reset(table):
    for kind in table.kinds:
        if reset_refusal(table, kind) == 0:
            return kind
    return None


# Links never run in a circle, so as long as some kinds are left, one of them waits for none of the others.
def reset_order(table):
    waits_for = {}
    for kind in raised_kinds(table):
        waits_for[kind.number] = raised_before(table, kind.number)
    order = []
    while len(waits_for) > 0:
        k = least_free(waits_for)
        waits_for.pop(k)
        order.append(k)
    return order


# The keys stand in the order of the kinds' numbers, so the first that is free is the least.
def least_free(waits_for):
    for k in waits_for:
        if not any([a in waits_for for a in waits_for[k]]):
            return k
    return None
