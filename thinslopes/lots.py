"""Lots: ascending sequences of unlike things."""

from thinslopes.ratios import is_sequence, is_whole


def lots_of(things, many):
    """Return all lots of so many of the ascending things, as ascending tuples in ascending order."""
    lots = [((), 0)]
    for _ in range(many):
        lots = [((*lot, things[at]), at + 1) for lot, start in lots for at in range(start, len(things))]
    return [lot for lot, _ in lots]


def is_lot(thing, many):
    """Tell whether a thing of any kind is a strictly ascending sequence of numbers from 0, below `many`."""
    if not is_sequence(thing) or not all([is_whole(number, 0, many - 1) for number in thing]):
        return False
    return all([before < number for before, number in zip(thing, thing[1:])])


def has_part(lot, parts):
    """Tell whether one of the parts, which are lots too, has no thing that the lot lacks."""
    return any([all([thing in lot for thing in part]) for part in parts])
