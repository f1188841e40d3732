"""Told: whether disclosed answers are possible, and the store of what they show to be present."""

from asksold.asks import (
    MOST_ROWS, absent_of, facts_of_row, is_ask, is_row, lots_of, present_facts, product_of_sizes, rows_with_facts,
)
from asksold.errors import BadAnswers, Contradiction
from asksold.plans import is_list, is_pair, is_rising
from asksold.stores import Store


def are_disclosed(lots, thing):
    """Return whether any value is an ascending tuple of distinct rows of these lots."""
    if not isinstance(thing, tuple):
        return False
    return all([is_row(lots, row) for row in thing]) and is_rising(thing)


def is_told(plan, thing):
    """Return whether any value is a pair of an ask with few enough rows and the disclosed ones of them."""
    if not is_pair(thing) or not is_ask(plan, thing[0]):
        return False
    lots = lots_of(plan, thing[0])
    return product_of_sizes(lots) <= MOST_ROWS and are_disclosed(lots, thing[1])


def is_answers(plan, thing):
    """Return whether any value is answers."""
    return is_list(thing) and all([is_told(plan, item) for item in thing])


def check_answers(plan, thing):
    """Raise BadAnswers for any value that is not answers."""
    if not is_list(thing):
        raise BadAnswers(0)
    for at, item in enumerate(thing):
        if not is_told(plan, item):
            raise BadAnswers(at)


def excluded_rows(plan, item):
    """Return the ascending list of the pairs (row, its facts) for the excluded rows of an item."""
    ask, rows = item
    disclosed = {row: True for row in rows}
    return [(row, found) for row, found in rows_with_facts(plan, ask) if row not in disclosed]


class Told:
    """What answers tell: the known facts, which point 17 calls IN, and the rests of the excluded rows.

    A rest is a triple (index of an item, excluded row, tuple of its facts that are not known). So a store has all the
    answers exactly if all known facts are present in it, and of each rest a fact is absent.
    """

    def __init__(self, plan, answers):
        check_answers(plan, answers)
        self._plan = plan
        self.known = {fact: True for ask, rows in answers for row in rows for fact in facts_of_row(ask, row)}
        self.rests = [
            (at, row, tuple(absent_of(found, self.known)))
            for at, item in enumerate(answers) for row, found in excluded_rows(plan, item)
        ]

    def first_clash(self):
        """Return the first item with an excluded row that has only known facts, and its least one, or None."""
        for at, row, rest in self.rests:
            if not rest:
                return at, row
        return None

    def check_possible(self):
        """Raise Contradiction if no store has all the answers."""
        found = self.first_clash()
        if found is not None:
            raise Contradiction(found[0])

    def is_told_by(self, store):
        """Return whether a store of the plan has all the answers."""
        present = present_facts(store)
        if absent_of(self.known, present):
            return False
        return all([absent_of(rest, present) for at, row, rest in self.rests])

    def store_with(self, more):
        """Return the store in which exactly the known facts and these are present."""
        return Store(self._plan, [*self.known, *more])


def possible_told(plan, answers):
    """Return what the answers tell, or raise BadAnswers or Contradiction."""
    told = Told(plan, answers)
    told.check_possible()
    return told


def clash(plan, answers):
    """Return the first item and its least excluded row that make the answers impossible, None if they are possible."""
    return Told(plan, answers).first_clash()


def implied_store(plan, answers):
    """Return the store in which exactly the facts of the disclosed rows are present."""
    return possible_told(plan, answers).store_with([])
