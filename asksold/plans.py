"""Plans, and the facts and looks that a plan has."""

from asksold.errors import BadFact, BadLook, BadPlan

MOST_LETTERS = 8
MOST_VALUES = 6
MOST_SIDES = 2


def is_number(thing):
    """Return whether any value is a number; a bool is none."""
    return isinstance(thing, int) and not isinstance(thing, bool)


def is_below(thing, bound):
    """Return whether any value is a number from 0 to bound - 1."""
    return is_number(thing) and 0 <= thing < bound


def is_name(thing):
    """Return whether any value is a name: 1 to 8 letters a to z."""
    if not isinstance(thing, str) or not 1 <= len(thing) <= MOST_LETTERS:
        return False
    return all(["a" <= letter <= "z" for letter in thing])


def is_list(thing):
    """Return whether any value can stand where a list is expected."""
    return isinstance(thing, (list, tuple))


def is_pair(thing):
    """Return whether any value is a tuple of two items."""
    return isinstance(thing, tuple) and len(thing) == 2


def is_rising(items):
    """Return whether each of the items is less than the next one."""
    return all([item < after for item, after in zip(items, items[1:])])


def is_column(thing):
    """Return whether any value is a pair (name, many) of a plan."""
    if not is_pair(thing) or not is_name(thing[0]):
        return False
    return is_number(thing[1]) and 1 <= thing[1] <= MOST_VALUES


def is_table(thing, column_names):
    """Return whether any value is a pair (name, columns) over these columns."""
    if not is_pair(thing) or not is_name(thing[0]):
        return False
    names = thing[1]
    if not isinstance(names, tuple) or not 1 <= len(names) <= MOST_SIDES:
        return False
    return all([name in column_names for name in names])


def have_distinct_names(pairs):
    """Return whether the first items of the pairs are distinct."""
    return len({pair[0] for pair in pairs}) == len(pairs)


def are_columns(thing):
    """Return whether any value is the columns of a plan."""
    if not is_list(thing) or not 1 <= len(thing) <= Plan.MOST_COLUMNS:
        return False
    return all([is_column(item) for item in thing]) and have_distinct_names(thing)


def are_tables(thing, columns):
    """Return whether any value is the tables of a plan with these columns."""
    if not is_list(thing) or not 1 <= len(thing) <= Plan.MOST_TABLES:
        return False
    column_names = [name for name, many in columns]
    return all([is_table(item, column_names) for item in thing]) and have_distinct_names(thing)


class Plan:
    """The columns with their sizes, and the tables with their columns."""

    MOST_COLUMNS = 6
    MOST_TABLES = 8

    def __init__(self, columns, tables):
        if not are_columns(columns):
            raise BadPlan("not the columns of a plan")
        if not are_tables(tables, columns):
            raise BadPlan("not the tables of a plan with these columns")
        self._columns = tuple(columns)
        self._tables = tuple(tables)
        self._sizes = {name: many for name, many in columns}
        self._shapes = {name: names for name, names in tables}
        self._spans = {name: tuple([self._sizes[column] for column in names]) for name, names in tables}

    @property
    def columns(self):
        """The tuple of the pairs (name, many)."""
        return self._columns

    @property
    def tables(self):
        """The tuple of the pairs (name, columns)."""
        return self._tables

    def __eq__(self, other):
        return isinstance(other, Plan) and self._columns == other._columns and self._tables == other._tables

    def size_of(self, column):
        """Return how many values a column has, None for any other value."""
        if not isinstance(column, str):
            return None
        return self._sizes.get(column)

    def sides(self, table):
        """Return how many columns a table has, None for any other value."""
        spans = self.spans(table)
        if spans is None:
            return None
        return len(spans)

    def columns_of(self, table):
        """Return the tuple of the names of a table's columns, None for any other value."""
        if not isinstance(table, str):
            return None
        return self._shapes.get(table)

    def spans(self, table):
        """Return the tuple of the sizes of a table's columns, None for any other value."""
        if not isinstance(table, str):
            return None
        return self._spans.get(table)

    def table_names(self):
        """Return the ascending list of the tables' names."""
        return sorted(list(self._spans))


def is_fact(plan, thing):
    """Return whether any value is a fact of the plan."""
    if not is_pair(thing):
        return False
    table, row = thing
    spans = plan.spans(table)
    if spans is None or not isinstance(row, tuple) or len(row) != len(spans):
        return False
    return all([is_below(value, size) for value, size in zip(row, spans)])


def is_look(plan, thing):
    """Return whether any value is a look of the plan."""
    if not isinstance(thing, tuple) or len(thing) != 3:
        return False
    table, side, value = thing
    spans = plan.spans(table)
    if spans is None or not is_below(side, len(spans)):
        return False
    return is_below(value, spans[side])


def check_fact(plan, thing):
    """Raise BadFact for any value that is not a fact of the plan."""
    if not is_fact(plan, thing):
        raise BadFact("not a fact of the plan")


def check_looks(plan, thing):
    """Raise BadLook for any value that is not a list of looks of the plan."""
    if not is_list(thing):
        raise BadLook(0)
    for at, item in enumerate(thing):
        if not is_look(plan, item):
            raise BadLook(at)


def all_rows(plan, table):
    """Return the ascending list of the rows that the facts of a table have."""
    rows = [()]
    for size in plan.spans(table):
        rows = [(*row, value) for row in rows for value in range(size)]
    return rows


def all_facts(plan):
    """Return the ascending list of all facts of the plan."""
    return [(table, row) for table in plan.table_names() for row in all_rows(plan, table)]


def facts(plan):
    """Yield all facts of the plan in ascending order."""
    yield from all_facts(plan)


def looks_at(plan, table):
    """Return the ascending list of the looks at a table of the plan."""
    return [(table, side, value) for side, size in enumerate(plan.spans(table)) for value in range(size)]


def all_looks(plan):
    """Return the ascending list of all looks of the plan."""
    return [look for table in plan.table_names() for look in looks_at(plan, table)]


def looks(plan):
    """Yield all looks of the plan in ascending order."""
    yield from all_looks(plan)


def sees(look, fact):
    """Return whether the look sees the fact."""
    table, side, value = look
    return table == fact[0] and value == fact[1][side]


def looks_that_see(fact):
    """Return the ascending list of the looks that see the fact."""
    table, row = fact
    return [(table, side, value) for side, value in enumerate(row)]


def seers(plan, fact):
    """Return the ascending tuple of the looks that see the fact."""
    check_fact(plan, fact)
    return tuple(looks_that_see(fact))
