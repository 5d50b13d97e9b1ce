"""Lots of things, gone through in order."""


def lots_of(things, many):
    """Return all lots of so many of the ascending things, as ascending tuples in ascending order."""
    lots = [((), 0)]
    for _ in range(many):
        lots = [((*lot, things[at]), at + 1) for lot, start in lots for at in range(start, len(things))]
    return [lot for lot, _ in lots]
