"""Leeway: how the price of an ask depends on one look, and on one fact."""

from asksold.errors import BadLook
from asksold.plans import check_fact, is_look
from asksold.prices import Offer, check_offer, price


def leeway(store, prices, ask, look, *, shelf=()):
    """Return the price with the look on the shelf, and the price without it; each a number or None."""
    check_offer(store.plan, prices, shelf, ask)
    if not is_look(store.plan, look) or look in shelf:
        raise BadLook(0)
    others = {other: prices[other] for other in prices if other != look}
    return price(store, others, ask, shelf=[*shelf, look]), price(store, others, ask, shelf=shelf)


def musts(store, prices, ask):
    """Return the ascending list of the looks above 0 that all sets have that settle the ask for the price."""
    offer = Offer(store, prices, ask, ())
    net = offer.sold_net()
    return [look for look in offer.dear_looks() if net.each_cut_has(look)]


def mays(store, prices, ask):
    """Return the ascending list of the looks above 0 that some set has that settles the ask for the price."""
    offer = Offer(store, prices, ask, ())
    net = offer.sold_net()
    return [look for look in offer.dear_looks() if net.some_cut_has([look])]


def both_prices(store, prices, ask, fact):
    """Return the price, and the price after the fact was inserted, or deleted if it is present."""
    check_offer(store.plan, prices, (), ask)
    check_fact(store.plan, fact)
    other = store.without_facts(fact) if store.has(fact) else store.with_facts(fact)
    return price(store, prices, ask), price(other, prices, ask)
