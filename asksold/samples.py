"""The plan, the store, the ask and the prices of the examples."""

from asksold.plans import Plan
from asksold.prices import uniform
from asksold.stores import Store


def sample_plan():
    """Return the plan P."""
    return Plan([("town", 2)], [("inn", ("town",)), ("road", ("town", "town"))])


def sample_store():
    """Return the store S."""
    return Store(sample_plan(), [("inn", (1,)), ("road", (0, 1))])


def sample_ask():
    """Return the ask A."""
    return ("town", None, ()), ("road", 0), ("town", None, ("inn",))


def sample_prices():
    """Return the prices ONE."""
    return uniform(sample_plan(), 1)
