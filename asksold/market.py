"""A market: customers buy answers, pass them on and infer from them, while facts and prices change."""

from asksold.asks import answer, check_ask
from asksold.errors import AskError, BadDeed, BadLook, BadPrices, NoBuyer
from asksold.plans import is_below, is_list, is_look, is_name, sees
from asksold.prices import cheapest, check_prices, is_price, price
from asksold.sure import determined

SELL = "sell"
UNDO = "undo"
LENGTHS = {"buyer": 2, "sell": 3, "hand": 4, "join": 3, "price": 3, "come": 2, "go": 2, "undo": 1}


def is_deed(thing):
    """Return whether any value is a tuple that begins with a deed's word and has its length."""
    if not isinstance(thing, tuple) or len(thing) == 0 or not isinstance(thing[0], str):
        return False
    return LENGTHS.get(thing[0]) == len(thing)


class Customer:
    """The looks that a customer holds, ascending, what it paid, and the triples that it heard; it never changes."""

    def __init__(self, held, paid, news):
        self.held = held
        self.paid = paid
        self.news = news

    def __eq__(self, other):
        if not isinstance(other, Customer):
            return False
        return self.held == other.held and self.paid == other.paid and self.news == other.news

    def holding(self, looks):
        """Return the customer who holds these looks, too."""
        held = {look: True for look in [*self.held, *looks]}
        return Customer(tuple(sorted(list(held))), self.paid, self.news)

    def losing(self, fact):
        """Return the customer without the looks that see the fact."""
        return Customer(tuple([look for look in self.held if not sees(look, fact)]), self.paid, self.news)

    def paying(self, number):
        """Return the customer who paid this number, too."""
        return Customer(self.held, self.paid + number, self.news)

    def hearing(self, items):
        """Return the customer who heard those of the items, too, that are new to it."""
        return Customer(self.held, self.paid, (*self.news, *[item for item in items if item not in self.news]))


class State:
    """A store, prices, the number of changes of the store, and customers by name; it never changes."""

    def __init__(self, stock, rates, age, customers):
        self.stock = stock
        self.rates = rates
        self.age = age
        self.customers = customers

    def __eq__(self, other):
        if not isinstance(other, State) or self.stock != other.stock or self.rates != other.rates:
            return False
        return self.age == other.age and self.customers == other.customers

    def customer(self, name):
        """Return the customer of this name, or raise NoBuyer."""
        if not isinstance(name, str) or name not in self.customers:
            raise NoBuyer(name)
        return self.customers[name]

    def with_customer(self, name, customer):
        """Return the state in which the name is this customer's."""
        return State(self.stock, self.rates, self.age, {**self.customers, name: customer})

    def with_rates(self, rates):
        """Return the state with these prices."""
        return State(self.stock, rates, self.age, self.customers)

    def with_stock(self, stock, fact):
        """Return the state in which the fact has just come or gone, as this store shows."""
        customers = {name: customer.losing(fact) for name, customer in self.customers.items()}
        return State(stock, self.rates, self.age + 1, customers)

    def told_to(self, names):
        """Return the list of the answers, each once, that these customers heard at the present time."""
        found = []
        for name in names:
            for age, ask, rows in self.customer(name).news:
                if age == self.age and (ask, rows) not in found:
                    found.append((ask, rows))
        return found


def after_buyer(state, name):
    """Return the state with a new customer."""
    if not is_name(name) or name in state.customers:
        raise NoBuyer(name)
    return state.with_customer(name, Customer((), 0, ()))


def after_hand(state, name, other, k):
    """Return the state in which the other customer heard an item, too."""
    news = state.customer(name).news
    hearer = state.customer(other)
    if not is_below(k, len(news)):
        raise BadDeed(0)
    return state.with_customer(other, hearer.hearing([news[k]]))


def after_join(state, name, other):
    """Return the state in which two customers share what they heard and their looks."""
    one = state.customer(name)
    two = state.customer(other)
    news = one.hearing(two.news).news
    held = one.holding(two.held).held
    state = state.with_customer(name, Customer(held, one.paid, news))
    return state.with_customer(other, Customer(held, two.paid, news))


def after_price(state, look, number):
    """Return the state in which a look costs a number, or is not for sale."""
    if not is_look(state.stock.plan, look):
        raise BadLook(0)
    if number is not None and not is_price(number):
        raise BadPrices("neither None nor a price")
    rates = {other: state.rates[other] for other in state.rates if other != look}
    if number is not None:
        rates[look] = number
    return state.with_rates(rates)


def after_come(state, fact):
    """Return the state in which a fact has been inserted."""
    if state.stock.has(fact):
        raise BadDeed(0)
    return state.with_stock(state.stock.with_facts(fact), fact)


def after_go(state, fact):
    """Return the state in which a fact has been deleted."""
    if not state.stock.has(fact):
        raise BadDeed(0)
    return state.with_stock(state.stock.without_facts(fact), fact)


STEPS = {
    "buyer": after_buyer, "hand": after_hand, "join": after_join, "price": after_price, "come": after_come,
    "go": after_go,
}


def after(state, deed):
    """Return the state after a deed that is neither a sale nor an undo, or raise its error."""
    step = STEPS[deed[0]]
    parts = deed[1:]
    return step(state, *parts)


def after_sale(state, deed, looks, number, rows):
    """Return the state after a possible sale of these looks for this number, with these rows as the answer."""
    name, ask = deed[1:]
    customer = state.customer(name).holding(looks).paying(number).hearing([(state.age, ask, rows)])
    return state.with_customer(name, customer)


class Market:
    """A store, prices and customers, with the deeds that led there from a beginning."""

    def __init__(self, store, prices):
        check_prices(store.plan, prices)
        self._log = []
        # The state at the beginning, and the one after each deed of the log.
        self._states = [State(store, {look: number for look, number in prices.items()}, 0, {})]

    @property
    def store(self):
        """The store."""
        return self._states[-1].stock

    @property
    def prices(self):
        """The prices, as a new dict."""
        return {look: number for look, number in self._states[-1].rates.items()}

    @property
    def time(self):
        """The number of insertions and deletions so far."""
        return self._states[-1].age

    @property
    def buyers(self):
        """The ascending list of the customers' names."""
        return sorted(list(self._states[-1].customers))

    def __eq__(self, other):
        return isinstance(other, Market) and self._log == other._log and self._states[-1] == other._states[-1]

    def states(self):
        """Return the list of the state at the beginning and those after each deed of the log."""
        return list(self._states)

    def do(self, deed):
        """Do a deed and return its result, or raise its error and do nothing."""
        if not is_deed(deed):
            raise BadDeed(0)
        if deed[0] == SELL:
            return self.sell(deed)
        if deed[0] == UNDO:
            self.take_back()
        else:
            self._states.append(after(self._states[-1], deed))
            self._log.append(deed)
        return None

    def sell(self, deed):
        """Sell an answer, and return the list of its rows and the price."""
        state = self._states[-1]
        name, ask = deed[1:]
        looks = cheapest(state.stock, state.rates, ask, shelf=state.customer(name).held)
        number = sum([state.rates[look] for look in looks])
        rows = answer(state.stock, ask)
        self._states.append(after_sale(state, deed, looks, number, tuple(rows)))
        self._log.append(deed)
        return rows, number

    def take_back(self):
        """Take back the last deed of the log, or raise BadDeed."""
        if not self._log:
            raise BadDeed(0)
        self._log.pop()
        self._states.pop()

    def all_done(self, deeds):
        """Do all deeds of a list and return the list of their results, or raise an error and do none."""
        if not is_list(deeds):
            raise BadDeed(0)
        for at, deed in enumerate(deeds):
            if not is_deed(deed):
                raise BadDeed(at)
        log = list(self._log)
        states = list(self._states)
        try:
            return [self.do(deed) for deed in deeds]
        except AskError:
            self._log = log
            self._states = states
            raise

    def price_for(self, name, ask):
        """Return the price of an ask with the customer's shelf, or None."""
        state = self._states[-1]
        return price(state.stock, state.rates, ask, shelf=state.customer(name).held)

    def shelf(self, name):
        """Return the ascending list of the looks on the customer's shelf."""
        return list(self._states[-1].customer(name).held)

    def heard(self, name):
        """Return the list of the triples (time, ask, rows) that the customer heard."""
        return list(self._states[-1].customer(name).news)

    def purse(self, name):
        """Return what the customer paid in total."""
        return self._states[-1].customer(name).paid

    def infers(self, ask, *names):
        """Return the answer to an ask if these customers together can infer it, else None."""
        return inferred(self._states[-1], ask, names)

    def log(self):
        """Yield the deeds that were done and not undone, in order."""
        yield from list(self._log)

    def twin(self):
        """Return an independent copy."""
        other = Market(self._states[0].stock, self._states[0].rates)
        other._log = list(self._log)
        other._states = list(self._states)
        return other


def inferred(state, ask, names):
    """Return the answer to an ask if what these customers heard at the present time determines it, else None."""
    check_ask(state.stock.plan, ask)
    return determined(state.stock.plan, state.told_to(names), ask)


def replayed(store, prices, log):
    """Return a market on which the deeds of a list were done, or raise BadDeed with the index of one that fails."""
    market = Market(store, prices)
    if not is_list(log):
        raise BadDeed(0)
    for at, deed in enumerate(log):
        try:
            market.do(deed)
        except AskError:
            raise BadDeed(at)
    return market
