"""Whole numbers, and the bounds that are set to them."""


def is_whole(thing):
    # A truth is an int to Python, but no whole number.
    return isinstance(thing, int) and not isinstance(thing, bool)


def is_below(thing, bound):
    return is_whole(thing) and 0 <= thing < bound


def is_answer(thing):
    # Compared, not written out: Python refuses to write numbers of some thousand figures.
    return is_whole(thing) and abs(thing) < 10 ** 60
