"""Consistent prices: no look costs more than what the other side of its table costs together."""

from asksold.plans import all_looks
from asksold.prices import MOST_PRICE, check_prices


def other_sum(plan, prices, look):
    """Return what all looks on the other side of the look's table cost together.

    None if there is no other side, if it is not completely for sale, or if it costs more than a look may.
    """
    table, side, value = look
    spans = plan.spans(table)
    if len(spans) == 1:
        return None
    numbers = [prices.get((table, 1 - side, other)) for other in range(spans[1 - side])]
    if None in numbers or sum(numbers) > MOST_PRICE:
        return None
    return sum(numbers)


def overpriced(plan, prices):
    """Return the ascending list of the pairs of an overpriced look and what the other side costs."""
    check_prices(plan, prices)
    found = []
    for look in all_looks(plan):
        total = other_sum(plan, prices, look)
        if total is not None and (look not in prices or prices[look] > total):
            found.append((look, total))
    return found


def consistent(plan, prices):
    """Return the greatest consistent prices that are nowhere above the given ones."""
    lowered = {look: number for look, number in reductions(plan, prices)}
    found = {}
    for look in all_looks(plan):
        number = lowered.get(look, prices.get(look))
        if number is not None:
            found[look] = number
    return found


def reductions(plan, prices):
    """Return a list of pairs (look, number) that, applied one after the other, lead to the greatest consistent prices.

    One pass is enough: a look that costs more than the other side costs more than each look there, so the two sides
    of a table are never overpriced at once, and what a lowered look costs is enough for each look of the other side.
    """
    return overpriced(plan, prices)
