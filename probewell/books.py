"""Books: probes with a machine's answers, by which other machines are tested."""

from probewell.errors import TooMuch
from probewell.marking import marks
from probewell.merging import least
from probewell.reach import ways
from probewell.sizes import book_size, need_size, rows_of
from probewell.tables import MOST_STATES, asks_of
from probewell.walks import rank, walked

MOST_IN_BOOK = 3000


def book(machine, most):
    need_size(most, MOST_STATES)
    small = least(machine)
    extra = max(most - len(small), 0)
    if book_size(len(small), asks_of(machine), extra) > MOST_IN_BOOK:
        raise TooMuch("the book would be too large")
    probes = book_probes(small, extra)
    return [(probe, walked(machine, 0, probe)[0]) for probe in probes]


def book_probes(small, extra):
    marked = marks(small)
    rows = rows_of(asks_of(small), extra + 1)
    found = {}
    for state, way in enumerate(ways(small)):
        for row in rows:
            for mark in marked[walked(small, state, row)[1]]:
                found[tuple(way + row + mark)] = True
    return [list(probe) for probe in sorted(found, key=rank)]
