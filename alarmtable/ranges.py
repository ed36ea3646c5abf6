"""The ranges of arguments."""


def within(number, least, greatest):
    return least <= number and number <= greatest


def has_kind(table, k):
    return within(k, 0, len(table.kinds) - 1)
