"""How seconds pass.

Kinds do not touch one another while seconds pass, and most seconds only make counts grow. So the clock goes
straight to the next second in which some kind does something: thousands of seconds cost a few steps.
"""

from alarmtable.alarms import grow_rank, raise_kind, sound_again

GRAVEST = 3
# Above all that can be left of one tick, so no step comes to it.
NEVER = 1000000


def pass_seconds(table, n):
    left = n
    while left > 0:
        gaps = [seconds_to_deed(kind, table.clock) for kind in table.kinds]
        step = min(gaps + [left])
        for kind in table.kinds:
            count_seconds(kind, table.clock, step)
        table.clock += step
        for kind, gap in zip(table.kinds, gaps):
            if gap == step:
                do_deed(table, kind)
        left -= step


# At least 1: what is due is done in a second that passes, never at once.
def seconds_to_deed(kind, clock):
    if kind.raised:
        limit = waiting_limit(kind)
        return max(1, limit - kind.waited) if limit > 0 else NEVER
    if not kind.holds:
        return NEVER
    missing = max(0, kind.delay - kind.held)
    return max(1, counting_start(kind, clock) + missing - clock)


# How long a raised kind waits until it does something; 0 where it does not wait.
def waiting_limit(kind):
    if kind.acknowledged:
        return kind.again if kind.holds else 0
    return kind.escalate if kind.rank_now < GRAVEST else 0


# The second up to which a kind is shelved does not count yet; the one behind it does.
def counting_start(kind, clock):
    return max(clock, kind.shelved_to)


def count_seconds(kind, clock, step):
    if kind.raised:
        if waiting_limit(kind) > 0:
            kind.waited += step
    elif kind.holds:
        kind.held += max(0, clock + step - counting_start(kind, clock))


def do_deed(table, kind):
    if not kind.raised:
        raise_kind(table, kind)
    elif kind.acknowledged:
        sound_again(table, kind)
    else:
        grow_rank(table, kind)
