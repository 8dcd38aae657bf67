"""What is found in rounds, each of which draws on the rounds ahead of it alone."""


def found_in_rounds(outset, left, tell):
    # What a round finds is put in when the round has ended: so the rounds count the asks that are needed.
    found = dict(outset)
    newer = found_in_round(found, left, tell)
    while newer:
        found.update(newer)
        left = [thing for thing in left if thing not in newer]
        newer = found_in_round(found, left, tell)
    return found


def found_in_round(found, left, tell):
    newer = {}
    for thing in left:
        told = tell(thing, found)
        if told is not None:
            newer[thing] = told
    return newer
