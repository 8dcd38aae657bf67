"""Things of many kinds that are no whole numbers, no lists and no tuples."""

from decimal import Decimal
from fractions import Fraction


class Bare:
    pass


class LikeNumber:
    """Serves as a number everywhere, and is none."""

    def __index__(self):
        return 0

    def __int__(self):
        return 0

    def __eq__(self, other):
        return True

    def __lt__(self, other):
        return True

    __le__ = __gt__ = __ge__ = __lt__


class LikeList:
    """Serves as a list of one, and is none."""

    def __init__(self, inner):
        self.inner = inner

    def __len__(self):
        return 1

    def __getitem__(self, place):
        return [self.inner][place]

    def __eq__(self, other):
        return True


def bare_things():
    return [
        None, True, False, 0.0, 1.0, -2.5, float("nan"), float("inf"), 1j, Decimal(1), Fraction(1),
        "", "0", "[[(0, 0)]]", b"", b"0", bytearray(b"0"), range(1), {}, {0: 0}, {0: [(0, 0)]}, set(), {0},
        frozenset(), iter([0]), (place for place in [0]), len, int, bool, list, object(), Bare, Bare(),
        LikeNumber(), LikeList(0), LikeList([(0, 0)]), Ellipsis, NotImplemented, ValueError("0"), lambda: 0,
    ]


def number_things():
    return [0, 1, -1, 10 ** 60, 10 ** 6000]


def list_things():
    return [[], [0], [[]], [[(0, 0)]]]


def tuple_things():
    return [(), (0,), (0, 0), ([(0, 0)],)]
