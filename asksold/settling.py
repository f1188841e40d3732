"""Settling: whether looks determine the answer to an ask, and why or why not."""

from asksold.asks import (
    absent_of, check_ask, facts_of_row, is_row, lots_of, present_facts, rows_with_facts, threads_with_looks,
)
from asksold.errors import BadLook
from asksold.plans import all_facts, check_looks, looks_that_see


def check_settling(plan, looks, ask):
    """Raise the errors that all functions for looks and an ask have in common."""
    check_looks(plan, looks)
    check_ask(plan, ask)


def seen_by(plan, looks):
    """Return a dict from each fact of the plan that one of the looks sees to the least such look."""
    bought = {look: True for look in looks}
    seen = {}
    for fact in all_facts(plan):
        found = [look for look in looks_that_see(fact) if look in bought]
        if found:
            seen[fact] = found[0]
    return seen


def is_shut(found, present, seen):
    """Return whether the looks that see the seen facts leave a row with these facts as it is."""
    absent = absent_of(found, present)
    if absent:
        return any([fact in seen for fact in absent])
    return all([fact in seen for fact in found])


def first_open(pairs, present, seen):
    """Return the first pair (row, its facts) that is not shut, or None."""
    for row, found in pairs:
        if not is_shut(found, present, seen):
            return row, found
    return None


def open_pair(store, looks, ask):
    """Return the pair of the least open row of an ask and its facts, or None."""
    pairs = rows_with_facts(store.plan, ask)
    return first_open(pairs, present_facts(store), seen_by(store.plan, looks))


def settles(store, looks, ask):
    """Return whether the looks settle the ask."""
    check_settling(store.plan, looks, ask)
    return open_pair(store, looks, ask) is None


def open_row(store, looks, ask):
    """Return the least row that the looks leave open, or None."""
    check_settling(store.plan, looks, ask)
    pair = open_pair(store, looks, ask)
    if pair is None:
        return None
    return pair[0]


def other_store(store, looks, ask):
    """Return a store that agrees on the looks and has another answer, None if the looks settle the ask."""
    check_settling(store.plan, looks, ask)
    pair = open_pair(store, looks, ask)
    if pair is None:
        return None
    absent = absent_of(pair[1], present_facts(store))
    if absent:
        return store.with_facts(*absent)
    unseen = absent_of(pair[1], seen_by(store.plan, looks))
    return store.without_facts(unseen[0])


def reason(store, looks, ask, row):
    """Return the least looks that shut a row as the interface states it, None if it is open or no row."""
    check_settling(store.plan, looks, ask)
    if not is_row(lots_of(store.plan, ask), row):
        return None
    found = facts_of_row(ask, row)
    present = present_facts(store)
    seen = seen_by(store.plan, looks)
    if not is_shut(found, present, seen):
        return None
    absent = absent_of(found, present)
    if absent:
        first = [fact for fact in absent if fact in seen][0]
        return first, seen[first]
    return tuple([seen[fact] for fact in found])


def needless(store, looks, ask):
    """Return the ascending list of the looks each of which alone may be left out."""
    check_settling(store.plan, looks, ask)
    bought = {look: True for look in looks}
    needed = {}
    for _, those in threads_with_looks(rows_with_facts(store.plan, ask), present_facts(store)):
        found = [look for look in those if look in bought]
        if not found:
            raise BadLook(-1)
        if len(found) == 1:
            needed[found[0]] = True
    return sorted([look for look in bought if look not in needed])
