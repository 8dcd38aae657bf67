"""Two machines held against one another."""

from probewell.errors import Unfit
from probewell.reach import ways_from
from probewell.tables import asks_of


def compare(one, other):
    if asks_of(one) != asks_of(other):
        raise Unfit("the machines have unlike numbers of asks")
    found = ways_from((0, 0), lambda pair: pairs_behind(one[pair[0]], other[pair[1]]))
    # The pairs lie in the order of their ways, so the first probe that is answered unlike ends at the first of them
    # that answers some ask unlike.
    for pair in found:
        unlike = unlike_asks(one[pair[0]], other[pair[1]])
        if unlike:
            return ("unlike", found[pair] + [unlike[0]])
    return ("alike", sorted(found))


def pairs_behind(row, beside):
    return [(step[1], against[1]) for step, against in zip(row, beside)]


def unlike_asks(row, beside):
    return [ask for ask in range(len(row)) if row[ask][0] != beside[ask][0]]
