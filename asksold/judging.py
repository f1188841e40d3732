"""Judging: stories of what was done at a market, and a checker of them that searches nothing."""

from asksold.asks import answer, check_ask, lots_of
from asksold.errors import AskError, BadPlan, BadStory
from asksold.market import SELL, UNDO, State, after, after_sale, inferred, is_deed
from asksold.plans import Plan, is_list, is_look, is_pair, is_rising
from asksold.prices import is_price, load, shows
from asksold.stores import Store, are_facts
from asksold.told import are_disclosed

BEGIN = "begin"


def begin_row(state):
    """Return the row of a story that tells the beginning."""
    pairs = tuple(sorted([(look, number) for look, number in state.rates.items()]))
    plan = state.stock.plan
    return BEGIN, plan.columns, plan.tables, state.stock.facts, pairs


def sale_row(deed, before, later):
    """Return the row of a story that tells a sale between two states."""
    name, ask = deed[1:]
    shelf = before.customer(name).held
    customer = later.customer(name)
    number = customer.paid - before.customer(name).paid
    looks = tuple([look for look in customer.held if look not in shelf])
    certificate = (looks, load(before.stock, before.rates, ask, shelf=shelf))
    return deed, (tuple(answer(before.stock, ask)), number), certificate


def story_of(market):
    """Return the story of what was done at a market and not undone."""
    states = market.states()
    rows = [begin_row(states[0])]
    for at, deed in enumerate(market.log()):
        rows.append(sale_row(deed, states[at], states[at + 1]) if deed[0] == SELL else (deed, None, None))
    return rows


def plan_with(columns, tables):
    """Return the plan with these parts, None for any values that are no tuples or no parts of a plan."""
    if not isinstance(columns, tuple) or not isinstance(tables, tuple):
        return None
    try:
        return Plan(columns, tables)
    except BadPlan:
        return None


def are_price_pairs(plan, thing):
    """Return whether any value is a tuple of pairs of a look and what it costs, each look once, ascending."""
    if not isinstance(thing, tuple) or not all([is_pair(item) for item in thing]):
        return False
    if not all([is_look(plan, look) and is_price(number) for look, number in thing]):
        return False
    return is_rising([look for look, number in thing])


def begun(row):
    """Return the state of which the first row of a story tells, None for any value that is no such row."""
    if not isinstance(row, tuple) or len(row) != 5 or row[0] != BEGIN:
        return None
    columns, tables, present, pairs = row[1:]
    plan = plan_with(columns, tables)
    if plan is None or not isinstance(present, tuple) or not are_facts(plan, present) or not is_rising(present):
        return None
    if not are_price_pairs(plan, pairs):
        return None
    return State(Store(plan, present), {look: number for look, number in pairs}, 0, {})


def is_answer(store, ask, thing):
    """Return whether any value is the answer to an ask, as a tuple."""
    return are_disclosed(lots_of(store.plan, ask), thing) and list(thing) == answer(store, ask)


def sold(state, deed, result, certificate):
    """Return the state after a sale with any values as result and certificate, None if they are not right."""
    if not is_pair(result) or not is_pair(certificate):
        return None
    name, ask = deed[1:]
    rows, number = result
    looks, shown = certificate
    try:
        shelf = state.customer(name).held
        check_ask(state.stock.plan, ask)
    except AskError:
        return None
    if not is_answer(state.stock, ask, rows) or not isinstance(looks, tuple):
        return None
    if not shows(state.stock, state.rates, ask, number, looks, shown, shelf=shelf):
        return None
    return after_sale(state, deed, looks, number, rows)


def followed(state, row):
    """Return the state after a further row of a story, None for any value that is no right row there."""
    if not isinstance(row, tuple) or len(row) != 3:
        return None
    deed, result, certificate = row
    if not is_deed(deed) or deed[0] == UNDO:
        return None
    if deed[0] == SELL:
        return sold(state, deed, result, certificate)
    if result is not None or certificate is not None:
        return None
    try:
        return after(state, deed)
    except AskError:
        return None


def judged(story):
    """Return the index of the first wrong row of any value as story, or None, and the state up to there."""
    if not is_list(story) or len(story) == 0:
        return 0, None
    state = None
    for at, row in enumerate(story):
        further = begun(row) if at == 0 else followed(state, row)
        if further is None:
            return at, state
        state = further
    return None, state


def first_wrong(story):
    """Return the index of the first row of any value as story that is not right, or None."""
    return judged(story)[0]


def concludes(story, ask, rows, *names):
    """Return whether what these customers heard at the final time determines the ask, with exactly these rows."""
    wrong, state = judged(story)
    if wrong is not None:
        raise BadStory(wrong)
    found = inferred(state, ask, names)
    if not is_list(rows) or not are_disclosed(lots_of(state.stock.plan, ask), tuple(rows)):
        return False
    return list(rows) == found
