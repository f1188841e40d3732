"""Webs: joins of tables by marks that stand for values, also such joins that are no path."""

from asksold.asks import (
    MOST_ROWS, check_ask, in_columns_order, links_of, present_facts, product_of_sizes, rows_present, stops_of,
    tables_of, threads_with_looks, tuples_of,
)
from asksold.errors import BadAsk, TooMany
from asksold.plans import check_looks, is_name, is_pair
from asksold.settling import first_open, seen_by

MOST_PARTS = 8
MARKS_OF_STOPS = "abcdef"


def is_part(plan, thing):
    """Return whether any value is a part (table, marks) with a mark for each column of the table."""
    if not is_pair(thing):
        return False
    columns = plan.columns_of(thing[0])
    if columns is None or not isinstance(thing[1], tuple) or len(thing[1]) != len(columns):
        return False
    return all([is_name(mark) for mark in thing[1]])


def columns_of_marks(plan, parts):
    """Return the list of the pairs (mark, column) of all places in the parts where a mark stands."""
    return [(mark, column) for table, marks in parts for mark, column in zip(marks, plan.columns_of(table))]


def is_web(plan, thing):
    """Return whether any value is a web of the plan, with any number of rows."""
    if not isinstance(thing, tuple) or not 1 <= len(thing) <= MOST_PARTS:
        return False
    if not all([is_part(plan, part) for part in thing]):
        return False
    if len({table for table, marks in thing}) < len(thing):
        return False
    places = columns_of_marks(plan, thing)
    column_of = {mark: column for mark, column in places}
    return all([column_of[mark] == column for mark, column in places])


def web_lots(plan, web):
    """Return, mark by mark in ascending order, the list of the values that the rows of a web have there."""
    column_of = {mark: column for mark, column in columns_of_marks(plan, web)}
    return [list(range(plan.size_of(column_of[mark]))) for mark in sorted(list(column_of))]


def check_web(plan, thing):
    """Raise BadAsk for any value that is not a web of the plan, and TooMany for one with too many rows."""
    if not is_web(plan, thing):
        raise BadAsk("not a web of the plan")
    if product_of_sizes(web_lots(plan, thing)) > MOST_ROWS:
        raise TooMany(MOST_ROWS)


def web_rows_with_facts(plan, web):
    """Return the list of the pairs (row, its facts) for the rows of a web in ascending order."""
    marks = sorted(list({mark: True for table, names in web for mark in names}))
    place_of = {mark: at for at, mark in enumerate(marks)}
    places = [(table, [place_of[mark] for mark in names]) for table, names in web]
    return [
        (row, tuple([(table, tuple([row[at] for at in ats])) for table, ats in places]))
        for row in tuples_of(web_lots(plan, web))
    ]


def web_of(plan, ask):
    """Return the web of an ask that names a table and has no lots, otherwise None."""
    check_ask(plan, ask)
    if not tables_of(ask) or not all([lot is None for column, lot, ones in stops_of(ask)]):
        return None
    links = links_of(ask)
    parts = []
    for at, (column, lot, ones) in enumerate(stops_of(ask)):
        if at > 0:
            table, way = links[at - 1]
            parts.append((table, in_columns_order(way, MARKS_OF_STOPS[at - 1], MARKS_OF_STOPS[at])))
        parts.extend([(name, (MARKS_OF_STOPS[at],)) for name in ones])
    return tuple(parts)


def web_rows(plan, web):
    """Yield the rows of a web in ascending order."""
    check_web(plan, web)
    yield from tuples_of(web_lots(plan, web))


def web_answer(store, web):
    """Return the ascending list of the rows in the answer to a web."""
    check_web(store.plan, web)
    return rows_present(web_rows_with_facts(store.plan, web), present_facts(store))


def web_threads(store, web):
    """Yield all threads of a web in ascending order, each once."""
    check_web(store.plan, web)
    pairs = web_rows_with_facts(store.plan, web)
    present = present_facts(store)
    for thread, _ in threads_with_looks(pairs, present):
        yield thread


def web_settles(store, looks, web):
    """Return whether the looks settle a web."""
    check_looks(store.plan, looks)
    check_web(store.plan, web)
    pairs = web_rows_with_facts(store.plan, web)
    return first_open(pairs, present_facts(store), seen_by(store.plan, looks)) is None
