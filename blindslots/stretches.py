"""Stretches: triples (first, last, content) of consecutive units with equal contents."""


def joined(pieces):
    """Return the stretches as long as possible: neighbours with equal contents become one."""
    stretches = []
    for first, last, content in pieces:
        if stretches and stretches[-1][2] == content:
            stretches[-1] = (stretches[-1][0], last, content)
        else:
            stretches.append((first, last, content))
    return tuple(stretches)


def first_difference(ours, theirs):
    """Return the first unit in which the running jobs of two runs differ, or None.

    The stretches of both runs are as long as possible and begin with unit 1.
    """
    for (first, last, names), (_, other_last, other_names) in zip(ours, theirs):
        if names != other_names:
            return first
        # A run never ends with an idle stretch, so the shorter one goes on with other jobs or none.
        if last != other_last:
            return min(last, other_last) + 1
    # When all jobs of one run have finished, the other one has none left to wait for: it goes on at once.
    common = min(len(ours), len(theirs))
    behind = ours[common:] + theirs[common:]
    return behind[0][0] if behind else None
