"""Stores: which facts of a plan are present."""

from asksold.errors import BadFact, BadLook, BadStore
from asksold.plans import all_facts, check_fact, check_looks, is_fact, is_list, is_look


def are_facts(plan, thing):
    """Return whether any value is a list of facts of the plan."""
    return is_list(thing) and all([is_fact(plan, item) for item in thing])


class Store:
    """A plan and the facts of it that are present; it never changes."""

    def __init__(self, plan, present=()):
        if not are_facts(plan, present):
            raise BadStore("not a list of facts of the plan")
        self._plan = plan
        self._present = {fact: True for fact in present}
        self._facts = tuple(sorted(list(self._present)))

    @classmethod
    def full(cls, plan):
        """Return the store in which all facts of the plan are present."""
        return cls(plan, all_facts(plan))

    @property
    def plan(self):
        """The plan of the store."""
        return self._plan

    @property
    def facts(self):
        """The ascending tuple of the facts that are present."""
        return self._facts

    def __len__(self):
        return len(self._facts)

    def __eq__(self, other):
        return isinstance(other, Store) and self._plan == other._plan and self._facts == other._facts

    def has(self, fact):
        """Return whether the fact is present."""
        check_fact(self._plan, fact)
        return fact in self._present

    def rows(self, table):
        """Return the ascending tuple of the rows of a table that are present."""
        if self._plan.sides(table) is None:
            raise BadFact("not the name of a table")
        return tuple([row for name, row in self._facts if name == table])

    def seen(self, look):
        """Return the ascending tuple of the rows present that the look sees."""
        if not is_look(self._plan, look):
            raise BadLook(0)
        table, side, value = look
        return tuple([row for row in self.rows(table) if row[side] == value])

    def with_facts(self, *facts):
        """Return a new store in which these facts are present, too."""
        for fact in facts:
            check_fact(self._plan, fact)
        return Store(self._plan, [*self._facts, *facts])

    def without_facts(self, *facts):
        """Return a new store in which these facts are absent."""
        for fact in facts:
            check_fact(self._plan, fact)
        return Store(self._plan, [fact for fact in self._facts if fact not in facts])


def agree(one, other, looks):
    """Return whether two stores with one plan agree on all looks of a list."""
    if one.plan != other.plan:
        raise BadStore("the stores have different plans")
    check_looks(one.plan, looks)
    return all([one.seen(look) == other.seen(look) for look in looks])
