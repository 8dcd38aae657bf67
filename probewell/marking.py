"""Marks: the probes by which a state is told apart from all that are not alike to it."""

from probewell.telling import apart
from probewell.walks import rank


def marks(machine):
    return [marks_among(probes) for probes in apart(machine)]


def marks_among(probes):
    found = {}
    for probe in probes:
        if probe is not None:
            found[tuple(probe)] = True
    # No state is without a mark, for probes are made by putting marks behind others.
    return [list(probe) for probe in sorted(found, key=rank)] or [[]]
