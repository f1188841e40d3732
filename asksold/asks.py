"""Asks: questions that follow a path of tables, with their rows, facts, answers and threads."""

from asksold.errors import BadAsk, TooMany
from asksold.plans import is_below, is_number, is_pair, is_rising, looks_that_see

MOST_STOPS = 6
MOST_ROWS = 5000


def is_lot(plan, column, thing):
    """Return whether any value is a lot of the column: None, or some of its values, ascending."""
    if thing is None:
        return True
    if not isinstance(thing, tuple) or len(thing) == 0:
        return False
    size = plan.size_of(column)
    return all([is_below(value, size) for value in thing]) and is_rising(thing)


def are_ones(plan, column, thing):
    """Return whether any value is an ascending tuple of tables with this column alone."""
    if not isinstance(thing, tuple):
        return False
    return all([plan.columns_of(name) == (column,) for name in thing]) and is_rising(thing)


def is_stop(plan, thing):
    """Return whether any value is a stop (column, lot, ones) of the plan."""
    if not isinstance(thing, tuple) or len(thing) != 3:
        return False
    column, lot, ones = thing
    if plan.size_of(column) is None:
        return False
    return is_lot(plan, column, lot) and are_ones(plan, column, ones)


def in_columns_order(way, before, after):
    """Return what the two ends of a link have, in the order of the table's columns."""
    return (before, after) if way == 0 else (after, before)


def is_link(plan, thing, before, after):
    """Return whether any value is a link that leads from one column to another."""
    if not is_pair(thing):
        return False
    table, way = thing
    return is_below(way, 2) and plan.columns_of(table) == in_columns_order(way, before, after)


def stops_of(ask):
    """Return the tuple of the stops of an ask."""
    return ask[::2]


def links_of(ask):
    """Return the tuple of the links of an ask."""
    return ask[1::2]


def tables_of(ask):
    """Return the list of the names of the tables that an ask names."""
    names = [name for column, lot, ones in stops_of(ask) for name in ones]
    return names + [table for table, way in links_of(ask)]


def is_ask(plan, thing):
    """Return whether any value is an ask of the plan, with any number of rows."""
    if not isinstance(thing, tuple) or len(thing) % 2 == 0 or len(thing) > 2 * MOST_STOPS:
        return False
    if not all([is_stop(plan, stop) for stop in stops_of(thing)]):
        return False
    columns = [column for column, lot, ones in stops_of(thing)]
    if not all([is_link(plan, link, columns[at], columns[at + 1]) for at, link in enumerate(links_of(thing))]):
        return False
    names = tables_of(thing)
    return len(set(names)) == len(names)


def lots_of(plan, ask):
    """Return, stop by stop, the list of the values that the rows of an ask have there."""
    lots = []
    for column, lot, ones in stops_of(ask):
        lots.append(list(range(plan.size_of(column))) if lot is None else list(lot))
    return lots


def product_of_sizes(lots):
    """Return the number of tuples with one value of each lot."""
    many = 1
    for lot in lots:
        many = many * len(lot)
    return many


def check_any_ask(plan, thing):
    """Raise BadAsk for any value that is not an ask of the plan."""
    if not is_ask(plan, thing):
        raise BadAsk("not an ask of the plan")


def check_ask(plan, thing):
    """Raise BadAsk for any value that is not an ask of the plan, and TooMany for one with too many rows."""
    check_any_ask(plan, thing)
    if product_of_sizes(lots_of(plan, thing)) > MOST_ROWS:
        raise TooMany(MOST_ROWS)


def count_rows(plan, ask):
    """Return how many rows an ask of any size has."""
    check_any_ask(plan, ask)
    return product_of_sizes(lots_of(plan, ask))


def facts_added(ask, at, row, value):
    """Return the facts that a value for a stop adds to those of the row up to there, in their order."""
    ones = [(name, (value,)) for name in ask[2 * at][2]]
    if at == 0:
        return ones
    table, way = ask[2 * at - 1]
    return [(table, in_columns_order(way, row[at - 1], value)), *ones]


def facts_of_row(ask, row):
    """Return the tuple of the facts of a row of an ask."""
    return tuple([fact for at, value in enumerate(row) for fact in facts_added(ask, at, row, value)])


def rows_with_facts(plan, ask):
    """Return the list of the pairs (row, its facts) for the rows of an ask in ascending order."""
    pairs = [((), ())]
    for at, lot in enumerate(lots_of(plan, ask)):
        pairs = [
            ((*row, value), (*found, *facts_added(ask, at, row, value)))
            for row, found in pairs for value in lot
        ]
    return pairs


def tuples_of(lots):
    """Return the ascending list of the tuples with one value of each lot."""
    tuples = [()]
    for lot in lots:
        tuples = [(*row, value) for row in tuples for value in lot]
    return tuples


def rows_of(plan, ask):
    """Yield the rows of an ask in ascending order."""
    check_ask(plan, ask)
    yield from tuples_of(lots_of(plan, ask))


def is_row(lots, thing):
    """Return whether any value is a tuple with one value of each lot."""
    if not isinstance(thing, tuple) or len(thing) != len(lots):
        return False
    return all([is_number(value) and value in lot for value, lot in zip(thing, lots)])


def facts_of(plan, ask, row):
    """Return the tuple of the facts of a row, None for any value that is not a row of the ask."""
    check_ask(plan, ask)
    if not is_row(lots_of(plan, ask), row):
        return None
    return facts_of_row(ask, row)


def present_facts(store):
    """Return a dict whose keys are the facts that are present in the store."""
    return {fact: True for fact in store.facts}


def absent_of(found, present):
    """Return the list of those of some facts that are not present."""
    return [fact for fact in found if fact not in present]


def rows_present(pairs, present):
    """Return the list of the rows with present facts alone, for rows with their facts."""
    return [row for row, found in pairs if not absent_of(found, present)]


def answer(store, ask):
    """Return the ascending list of the rows in the answer."""
    check_ask(store.plan, ask)
    return rows_present(rows_with_facts(store.plan, ask), present_facts(store))


def looks_at_facts(found):
    """Return the list of the looks that see one of the facts."""
    return [look for fact in found for look in looks_that_see(fact)]


def threads_with_looks(pairs, present):
    """Return the list of the pairs (thread, its looks), the threads ascending, for rows with their facts."""
    threaded = []
    told = {}
    for row, found in pairs:
        absent = absent_of(found, present)
        if absent:
            threaded.append((("absent", row), looks_at_facts(absent)))
        else:
            for fact in found:
                told[fact] = True
    return threaded + [(("present", fact), looks_that_see(fact)) for fact in sorted(list(told))]


def threads(store, ask):
    """Yield all threads of the ask in ascending order, each once."""
    check_ask(store.plan, ask)
    pairs = rows_with_facts(store.plan, ask)
    present = present_facts(store)
    for thread, _ in threads_with_looks(pairs, present):
        yield thread
