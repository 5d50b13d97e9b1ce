"""The fewest asks of any numbers that may tell all ties of a web, and a book that does."""

from thinslopes.asks import power_asks
from thinslopes.fewest import fewest_by
from thinslopes.floors import least_powers, side_floor
from thinslopes.groupings import book_of
from thinslopes.sidegroups import side_told


class SideBounds:
    def __init__(self, low, bars, high, book):
        self.low = low
        self.bars = bars
        self.high = high
        self.book = book


def bar_of(web, count):
    """Return what bars so many asks, or None."""
    # A single ask tells no more than the grouping of one group (point 7.5), whose walk bars more than floors do.
    return side_told(web, (0,) * web.points) if count == 1 else side_floor(web, count)


def side_bounds(web):
    bars = []
    bar = bar_of(web, 0)
    while bar is not None:
        bars.append(bar)
        bar = bar_of(web, len(bars))
    grouped = fewest_by(web, "told")
    high = min(grouped.groups, least_powers(web))
    book = book_of(grouped.first) if grouped.groups == high else power_asks("column", web.points, high)
    return SideBounds(len(bars), tuple(bars), high, book)
