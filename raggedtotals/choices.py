"""The cheapest set of indexes that is good, where trying a set shows what other sets lack, too."""


def sets_by_price(prices):
    """The ascending list of the pairs (sum of the prices, ascending tuple of indexes) of all sets of indexes."""
    found = [(0, ())]
    for index, price in enumerate(prices):
        found = found + [(total + price, (*chosen, index)) for total, chosen in found]
    return sorted(found)


def has_one(chosen, indexes):
    """Whether a set has at least one of these indexes."""
    return any([index in chosen for index in indexes])


def cheapest_good(prices, hurdle_for):
    """The cheapest good set of indexes, its price, and the proofs of the hurdles that were found; None if none is good.

    `hurdle_for(chosen)` is None if the set is good. Otherwise it is a hurdle: a pair of indexes, at least one of which
    each good set has, but this one has not, and a proof of this.
    """
    hurdles = []
    for price, chosen in sets_by_price(prices):
        # A set that a known hurdle keeps off need not be tried.
        if all([has_one(chosen, indexes) for indexes, _ in hurdles]):
            hurdle = hurdle_for(chosen)
            if hurdle is None:
                return chosen, price, [proof for _, proof in hurdles]
            hurdles.append(hurdle)
    return None
