"""The program's one way in: calls handed in as one list of numbers, answers given back as one list of numbers."""

from alarmtable.asking import tell
from alarmtable.changing import change
from alarmtable.state import Table

# By place: how many numbers stand behind it.
WIDTHS = {
    0: 6, 1: 2, 2: 2, 3: 1, 4: 1, 5: 1, 6: 1, 7: 1, 8: 1, 9: 1, 10: 1, 11: 0, 12: 2, 13: 1, 14: 1,
    15: 0, 16: 0, 17: 0, 18: 0, 19: 1, 20: 0, 21: 0, 22: 2, 23: 1, 24: 0, 25: 1, 26: 1, 27: 0, 28: 0,
}
FIRST_ASKING_PLACE = 16


def answer(table, place, numbers):
    if place < FIRST_ASKING_PLACE:
        return change(table, place, numbers)
    return tell(table, place, numbers)


def answers(calls):
    table = Table()
    given = []
    at = 0
    while at < len(calls):
        place = calls[at]
        behind = at + 1 + WIDTHS[place]
        answered = answer(table, place, calls[at + 1:behind])
        given.append(len(answered))
        given.extend(answered)
        at = behind
    return given
