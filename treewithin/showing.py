"""How ways and dates are written."""

from treewithin.trees import bracketed
from treewithin.ways import ways_within

STEP = ">"
DOES = "="
POINT = "."


def show_numbers(numbers, sign):
    """Numbers parted by a sign."""
    return sign.join([str(number) for number in numbers])


def show_dates(dates):
    """Dates as they are written."""
    return show_numbers(dates, POINT)


def show_way(way):
    """A way as it is written."""
    # The texts of those ways of which the way ahead hasn't come yet.
    loose = []
    for part in ways_within(way):
        text = show_numbers(part[0], STEP) + DOES + part[1]
        if len(part) > 2:
            other = loose.pop()
            one = loose.pop()
            text = text + bracketed(one, other)
        loose.append(text)
    return loose[-1]
