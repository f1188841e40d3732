"""Prices of looks, and of asks: the least that determines an answer, with looks and a load that show it."""

from asksold.asks import (
    check_ask, is_row, lots_of, present_facts, rows_present, rows_with_facts, tables_of, threads_with_looks,
)
from asksold.errors import BadPrices, NotForSale
from asksold.flows import AskNet
from asksold.plans import all_looks, check_looks, is_below, is_fact, is_list, is_look, is_number, is_pair, is_rising

MOST_PRICE = 1000000


def is_price(thing):
    """Return whether any value is a number that a look may cost."""
    return is_below(thing, MOST_PRICE + 1)


def is_prices(plan, thing):
    """Return whether any value is prices of the plan."""
    if not isinstance(thing, dict):
        return False
    return all([is_look(plan, look) and is_price(number) for look, number in thing.items()])


def check_prices(plan, thing):
    """Raise BadPrices for any value that is not prices of the plan."""
    if not is_prices(plan, thing):
        raise BadPrices("not prices of the plan")


def check_uniform(plan, number, name):
    """Raise BadPrices for a name that is no table's, None apart, and for a number that is neither None nor a price."""
    if name is not None and plan.sides(name) is None:
        raise BadPrices("not the name of a table")
    if number is not None and not is_price(number):
        raise BadPrices("not a price")


def uniform(the_plan, the_number, **tables):
    """Return prices in which every look costs the number, or the one given for its table; None is not for sale."""
    check_uniform(the_plan, the_number, None)
    for name, number in tables.items():
        check_uniform(the_plan, number, name)
    prices = {}
    for look in all_looks(the_plan):
        number = tables.get(look[0], the_number)
        if number is not None:
            prices[look] = number
    return prices


def check_offer(plan, prices, shelf, ask):
    """Raise the errors that all functions for prices, a shelf and an ask have in common."""
    check_prices(plan, prices)
    check_looks(plan, shelf)
    check_ask(plan, ask)


def rooms_for(plan, prices, shelf, ask):
    """Return a dict from each look at the tables of an ask, ascending, to what it may carry; None is no limit."""
    held = {look: True for look in shelf}
    tables = tables_of(ask)
    return {
        look: 0 if look in held else prices.get(look)
        for look in all_looks(plan) if look[0] in tables
    }


class Offer:
    """An ask at a store, with its threads, for prices and with a shelf."""

    def __init__(self, store, prices, ask, shelf):
        check_offer(store.plan, prices, shelf, ask)
        self.ask = ask
        self.lots = lots_of(store.plan, ask)
        self.rooms = rooms_for(store.plan, prices, shelf, ask)
        self.present = present_facts(store)
        self.pairs = rows_with_facts(store.plan, ask)
        self.threaded = threads_with_looks(self.pairs, self.present)

    def unsold_thread(self):
        """Return the least thread that has no look on the shelf or for sale, or None."""
        for thread, looks in self.threaded:
            if all([self.rooms[look] is None for look in looks]):
                return thread
        return None

    def values_in_answer(self):
        """Return a dict whose keys are the pairs (index of a stop, value) of the rows in the answer."""
        rows = rows_present(self.pairs, self.present)
        return {(at, value): True for row in rows for at, value in enumerate(row)}

    def net(self):
        """Return the filled net of the ask; each thread must have a look on the shelf or for sale."""
        return AskNet(self.ask, self.lots, self.values_in_answer(), self.present, self.rooms)

    def sold_net(self):
        """Return the filled net of the ask, or raise NotForSale."""
        thread = self.unsold_thread()
        if thread is not None:
            raise NotForSale(thread)
        return self.net()

    def dear_looks(self):
        """Return the ascending list of the looks for sale that are not on the shelf and cost more than 0."""
        return [look for look, room in self.rooms.items() if room is not None and room > 0]

    def least_dear_looks(self):
        """Return the looks above 0 of the basket, or raise NotForSale."""
        net = self.sold_net()
        found = []
        for look in self.dear_looks():
            if net.some_cut_has([*found, look]):
                found.append(look)
        return found

    def is_settled_by(self, bought):
        """Return whether these looks settle the ask: whether they contain a look of every thread."""
        held = {look: True for look in bought}
        for thread, looks in self.threaded:
            if not any([look in held for look in looks]):
                return False
        return True

    def is_carried(self, pairs):
        """Return whether no look is in threads with more together than its room, for pairs (thread, number)."""
        looks_of = {thread: looks for thread, looks in self.threaded}
        sums = {}
        for thread, number in pairs:
            if thread not in looks_of:
                return False
            for look in looks_of[thread]:
                sums[look] = sums.get(look, 0) + number
        return all([self.rooms[look] is None or number <= self.rooms[look] for look, number in sums.items()])


def price(store, prices, ask, *, shelf=()):
    """Return the price of the ask, or None."""
    offer = Offer(store, prices, ask, shelf)
    if offer.unsold_thread() is not None:
        return None
    return offer.net().flow()


def cheapest(store, prices, ask, *, shelf=()):
    """Return the ascending list of the looks in the basket."""
    offer = Offer(store, prices, ask, shelf)
    dear = offer.least_dear_looks()
    free = [look for look in offer.rooms if look not in shelf and prices.get(look) == 0]
    return sorted(free + dear)


def load(store, prices, ask, *, shelf=()):
    """Return a load whose sum is the price."""
    offer = Offer(store, prices, ask, shelf)
    net = offer.sold_net()
    # The least thread stands for all that have the same looks, so that a load has no thread twice.
    thread_of = {}
    for thread, looks in offer.threaded:
        thread_of.setdefault(tuple(sorted(looks)), thread)
    numbers = {}
    for looks, number in net.paths():
        thread = thread_of[tuple(sorted(looks))]
        numbers[thread] = numbers.get(thread, 0) + number
    return tuple([(thread, numbers[thread]) for thread in sorted(list(numbers))])


def is_thread(plan, lots, thing):
    """Return whether any value has the form of a thread: with a row of these lots, or a fact of the plan."""
    if not is_pair(thing):
        return False
    if thing[0] == "absent":
        return is_row(lots, thing[1])
    return thing[0] == "present" and is_fact(plan, thing[1])


def are_load_pairs(plan, lots, thing):
    """Return whether any value has the form of a load: pairs (thread, number), the threads ascending."""
    if not isinstance(thing, tuple) or not all([is_pair(item) for item in thing]):
        return False
    if not all([is_thread(plan, lots, thread) for thread, number in thing]):
        return False
    if not all([is_number(number) and number >= 1 for thread, number in thing]):
        return False
    return is_rising([thread for thread, number in thing])


def are_bought_looks(plan, prices, shelf, thing):
    """Return whether any value is an ascending list of distinct looks for sale that are not on the shelf."""
    if not is_list(thing) or not all([is_look(plan, look) for look in thing]):
        return False
    return all([look in prices and look not in shelf for look in thing]) and is_rising(thing)


def is_load(store, prices, ask, thing, *, shelf=()):
    """Return whether any value is a load."""
    offer = Offer(store, prices, ask, shelf)
    return are_load_pairs(store.plan, offer.lots, thing) and offer.is_carried(thing)


def shows(store, prices, ask, number, looks, thing, *, shelf=()):
    """Return whether these looks settle the ask for the number, and a load shows that no others do for less."""
    offer = Offer(store, prices, ask, shelf)
    if not is_number(number) or not are_bought_looks(store.plan, prices, shelf, looks):
        return False
    if not are_load_pairs(store.plan, offer.lots, thing) or not offer.is_carried(thing):
        return False
    if sum([prices[look] for look in looks]) != number or sum([part for thread, part in thing]) != number:
        return False
    return offer.is_settled_by([*shelf, *looks])
