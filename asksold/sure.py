"""Sure: what disclosed answers imply about facts, and about the answers to other asks."""

from asksold.asks import absent_of, check_ask, facts_of_row, is_row, lots_of, rows_with_facts
from asksold.errors import BadLook
from asksold.plans import check_fact, is_below, is_look, is_pair
from asksold.stores import Store
from asksold.told import possible_told

PRESENT = "present"
ABSENT = "absent"
OPEN = "open"


def rows_that_show(told, answers, fact):
    """Return the ascending list of the pairs (index of an item, row) that show the fact to be present or absent."""
    if fact in told.known:
        return [
            (at, row) for at, (ask, rows) in enumerate(answers) for row in rows if fact in facts_of_row(ask, row)
        ]
    return [(at, row) for at, row, rest in told.rests if rest == (fact,)]


def status(plan, answers, fact):
    """Return "present", "absent" or "open"."""
    told = possible_told(plan, answers)
    check_fact(plan, fact)
    if fact in told.known:
        return PRESENT
    return ABSENT if rows_that_show(told, answers, fact) else OPEN


def reason_for(plan, answers, fact):
    """Return the first item and its least row that show the status of a fact, or two stores if it is open."""
    told = possible_told(plan, answers)
    check_fact(plan, fact)
    shown = rows_that_show(told, answers, fact)
    if shown:
        return shown[0]
    return told.store_with([]), told.store_with([fact])


def is_place(plan, answers, thing):
    """Return whether any value is a pair of the index of an item and a row of its ask."""
    if not is_pair(thing) or not is_below(thing[0], len(answers)):
        return False
    return is_row(lots_of(plan, answers[thing[0]][0]), thing[1])


def are_stores_with(plan, told, thing):
    """Return whether any value is a pair of stores of the plan with all the answers."""
    if not is_pair(thing) or not all([isinstance(item, Store) for item in thing]):
        return False
    return all([store.plan == plan and told.is_told_by(store) for store in thing])


def is_reason_for(plan, answers, fact, thing):
    """Return whether any value shows the status of a fact."""
    told = possible_told(plan, answers)
    check_fact(plan, fact)
    shown = rows_that_show(told, answers, fact)
    if shown:
        return is_place(plan, answers, thing) and thing in shown
    return are_stores_with(plan, told, thing) and thing[0].has(fact) != thing[1].has(fact)


def parts_of(items):
    """Return the list of all tuples of some of the items, in their order."""
    parts = [()]
    for item in items:
        parts = parts + [(*part, item) for part in parts]
    return parts


def row_status(unknown, rests):
    """Return the status of a row with these unknown facts; the rests are ascending tuples of unknown facts."""
    if not unknown:
        return PRESENT
    # A row has at most one fact of each table, so it has few enough parts to look up each one.
    return ABSENT if any([part in rests for part in parts_of(sorted(unknown))]) else OPEN


def rows_with_status(plan, told, ask):
    """Return the list of the triples (row, its facts, status) for the rows of an ask in ascending order."""
    check_ask(plan, ask)
    rests = {tuple(sorted(rest)): True for at, row, rest in told.rests}
    return [
        (row, found, row_status(absent_of(found, told.known), rests))
        for row, found in rows_with_facts(plan, ask)
    ]


def determined(plan, answers, ask):
    """Return the answer to an ask if the answers determine it, else None."""
    told = possible_told(plan, answers)
    triples = rows_with_status(plan, told, ask)
    if OPEN in [word for row, found, word in triples]:
        return None
    return [row for row, found, word in triples if word == PRESENT]


def two_stores(plan, answers, ask):
    """Return two stores with all the answers that differ in the answer to the ask, or None."""
    told = possible_told(plan, answers)
    for row, found, word in rows_with_status(plan, told, ask):
        if word == OPEN:
            return told.store_with([]), told.store_with(found)
    return None


def sure_rows(plan, answers, ask):
    """Return the ascending lists of the rows that are surely, and surely not, in the answer."""
    told = possible_told(plan, answers)
    triples = rows_with_status(plan, told, ask)
    present = [row for row, found, word in triples if word == PRESENT]
    return present, [row for row, found, word in triples if word == ABSENT]


def ask_of_look(plan, look):
    """Return the ask whose answer tells what the look sees."""
    if not is_look(plan, look):
        raise BadLook(0)
    table, side, value = look
    columns = plan.columns_of(table)
    if len(columns) == 1:
        return ((columns[0], (value,), (table,)),)
    return (columns[side], (value,), ()), (table, side), (columns[1 - side], None, ())
