"""Which raised kinds may be reset, and which one is next."""

from alarmtable.refusals import CONDITION_HOLDS, NOT_ACKNOWLEDGED, NOT_RAISED, OTHERS_COME_BEFORE


def raised_before(table, k):
    return [a for a in table.links.all_before(k) if table.kinds[a].raised]


# 0 where nothing stands against it.
def reset_refusal(table, kind):
    if not kind.raised:
        return NOT_RAISED
    if kind.holds:
        return CONDITION_HOLDS
    if not kind.acknowledged:
        return NOT_ACKNOWLEDGED
    if len(raised_before(table, kind.number)) > 0:
        return OTHERS_COME_BEFORE
    return 0


def next_to_reset(table):
    for kind in table.kinds:
        if reset_refusal(table, kind) == 0:
            return kind
    return None
