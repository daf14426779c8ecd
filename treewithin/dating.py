"""Dates of a great tree, and its dated ground."""

from treewithin.grounds import name_of
from treewithin.kinds import is_row, is_whole
from treewithin.trees import ahead_of, halves, is_great, nodes

LAST_DATE = 99


def split_dates(houses, dates):
    """The dates of the houses that are no leaves."""
    return [date for house, date in zip(houses, dates) if not isinstance(house, str)]


def is_date(houses, dates, house):
    """Whether a house's date lies within its bounds, and above those of the houses under it."""
    if isinstance(houses[house], str):
        return dates[house] == 0
    below = max([dates[half] for half in houses[house]])
    return below < dates[house] and 1 <= dates[house] <= LAST_DATE


def is_dates(great, thing):
    """Whether it is dates of the great tree; of anything."""
    if not is_great(great):
        return False
    houses = nodes(great)
    if not is_row(thing, len(houses)) or not all([is_whole(date) for date in thing]):
        return False
    splits = split_dates(houses, thing)
    if len(set(splits)) != len(splits):
        return False
    return all([is_date(houses, thing, house) for house in range(len(houses))])


def standing(great, dates, begins):
    """The pairs (house, slice) of all slices, in which the houses stand, in the order of the stays."""
    ahead = ahead_of(great)
    pairs = []
    for number, begin in enumerate(begins):
        for house, date in enumerate(dates):
            if date <= begin and (ahead[house] is None or begin < dates[ahead[house]]):
                pairs.append((house, number))
    return pairs


def stay_of(houses, dates, begins, numbers, pair):
    """The stay of a pair (house, slice), of the stays' numbers by such pairs."""
    house = pair[0]
    layer = pair[1]
    goes_on = dates[house] < begins[layer]
    below = (house,) if goes_on else halves(houses[house])
    under = tuple([numbers[(each, layer - 1)] for each in below])
    beside = tuple([numbers[far] for far in numbers if far[1] == layer and far[0] != house])
    return (name_of(houses, house), layer, under, beside)


def dated(great, dates):
    """The dated ground of a great tree: a stay for each house and slice in which it stands."""
    houses = nodes(great)
    begins = [0] + sorted(split_dates(houses, dates))
    pairs = standing(great, dates, begins)
    numbers = dict([(pair, number) for number, pair in enumerate(pairs)])
    return tuple([stay_of(houses, dates, begins, numbers, pair) for pair in pairs])
