"""How large books are, and which sizes are taken."""

from probewell.errors import NoSize
from probewell.wholes import is_whole


def rows_of(asks, most):
    found = [[]]
    newest = [[]]
    for many in range(most):
        newest = one_ask_longer(newest, asks)
        found.extend(newest)
    return found


def book_size(states, asks, extra):
    rows = 1
    for many in range(extra + 1):
        rows = rows * asks + 1
    return states * rows * max(states - 1, 1)


def need_size(thing, most):
    if not is_whole(thing) or not 1 <= thing <= most:
        raise NoSize("this is no whole number from 1 to the most that is taken")


def one_ask_longer(rows, asks):
    found = []
    for row in rows:
        found.extend([row + [ask] for ask in range(asks)])
    return found
