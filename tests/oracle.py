"""What the document defines, worked out by trying everything, without the modules that are tested against it."""

import itertools

from cases import the_same

WORST = 10 ** 12


def sizes_of(plan):
    return dict(plan.columns)


def facts_by_trial(plan):
    sizes = sizes_of(plan)
    return sorted((table, row) for table, names in plan.tables
                  for row in itertools.product(*[range(sizes[name]) for name in names]))


def looks_by_trial(plan):
    sizes = sizes_of(plan)
    return sorted((table, side, value) for table, names in plan.tables
                  for side, name in enumerate(names) for value in range(sizes[name]))


def looks_of_fact(fact):
    return [(fact[0], side, value) for side, value in enumerate(fact[1])]


def looks_like_a_web(question):
    """Whether an ask or a web is a web: its first part is a pair, that of an ask a triple."""
    return len(question[0]) == 2


def marks_of(plan, web):
    """The dict from each mark, ascending, to its column."""
    shapes = dict(plan.tables)
    found = {mark: shapes[table][side] for table, marks in web for side, mark in enumerate(marks)}
    return {mark: found[mark] for mark in sorted(found)}


def lots(plan, ask):
    """The values of each stop, or of each mark."""
    if looks_like_a_web(ask):
        return [tuple(range(sizes_of(plan)[column])) for column in marks_of(plan, ask).values()]
    return [tuple(range(sizes_of(plan)[stop[0]])) if stop[1] is None else stop[1] for stop in ask[::2]]


def many_rows(plan, ask):
    many = 1
    for lot in lots(plan, ask):
        many *= len(lot)
    return many


def rows(plan, ask):
    return list(itertools.product(*lots(plan, ask)))


def facts_of_row(ask, row):
    if looks_like_a_web(ask):
        values = dict(zip(sorted({mark for _, marks in ask for mark in marks}), row))
        return tuple((table, tuple(values[mark] for mark in marks)) for table, marks in ask)
    found = []
    for at, part in enumerate(ask):
        if at % 2 == 0:
            found.extend((name, (row[at // 2],)) for name in part[2])
        else:
            ends = (row[at // 2], row[at // 2 + 1])
            found.append((part[0], ends if part[1] == 0 else ends[::-1]))
    return tuple(found)


def answer(plan, ask, present):
    """The answer at the store in which these facts are present."""
    present = set(present)
    return [row for row in rows(plan, ask) if present.issuperset(facts_of_row(ask, row))]


def threads(plan, ask, present):
    """The dict from each thread, ascending, to the set of its looks."""
    present = set(present)
    found = {}
    for row in rows(plan, ask):
        absent = [fact for fact in facts_of_row(ask, row) if fact not in present]
        if absent:
            found["absent", row] = {look for fact in absent for look in looks_of_fact(fact)}
        else:
            found.update({("present", fact): set(looks_of_fact(fact)) for fact in facts_of_row(ask, row)})
    return {thread: found[thread] for thread in sorted(found)}


def all_presents(plan):
    """The facts that are present in each store of a small plan."""
    every = facts_by_trial(plan)
    return [part for many in range(len(every) + 1) for part in itertools.combinations(every, many)]


def sets_of(items):
    return [part for many in range(len(items) + 1) for part in itertools.combinations(items, many)]


def settled(bonds, looks):
    """Whether the looks contain a look of each of the threads, given as a dict from the threads to their looks."""
    looks = set(looks)
    return all(looks & those for those in bonds.values())


class Offer:
    """The sets of looks for sale that settle an ask together with a shelf, by trying all sets of looks above 0."""

    def __init__(self, plan, ask, present, prices, shelf=()):
        self.bonds = threads(plan, ask, present)
        tables = tables_of(ask)
        self.free = [look for look in sorted(prices)
                     if look[0] in tables and prices[look] == 0 and look not in shelf]
        had = set(shelf) | set(self.free)
        open_bonds = [those for those in self.bonds.values() if not those & had]
        self.dear = [look for look in sorted(prices)
                     if prices[look] > 0 and look not in shelf and any(look in those for those in open_bonds)]
        masks = [sum(1 << at for at, look in enumerate(self.dear) if look in those) for those in open_bonds]
        masks = least_masks(masks)
        costs = [prices[look] for look in self.dear]
        self.best = []
        self.price = None
        for mask in range(1 << len(self.dear)):
            cost = sum(costs[at] for at in range(len(costs)) if mask >> at & 1)
            if self.price is not None and cost > self.price:
                continue
            if all(mask & other for other in masks):
                if self.price is None or cost < self.price:
                    self.price, self.best = cost, []
                self.best.append([look for at, look in enumerate(self.dear) if mask >> at & 1])
        self.unsold = [thread for thread, those in self.bonds.items()
                       if not any(look in prices or look in shelf for look in those)]

    def basket(self):
        return sorted(self.free + min(self.best))

    def musts(self):
        return sorted(set.intersection(*[set(looks) for looks in self.best]))

    def mays(self):
        return sorted(set.union(*[set(looks) for looks in self.best]))


def least_masks(masks):
    """Those masks that contain no other one, each once."""
    masks = sorted(set(masks))
    return [mask for mask in masks if not any(other != mask and other & mask == other for other in masks)]


def tables_of(ask):
    if looks_like_a_web(ask):
        return [table for table, _ in ask]
    return [name for stop in ask[::2] for name in stop[2]] + [link[0] for link in ask[1::2]]


def reverse(ask):
    """The ask read backwards."""
    return tuple(part if at % 2 == 0 else (part[0], 1 - part[1]) for at, part in enumerate(ask))[::-1]


def is_carried(bonds, prices, shelf, pairs):
    """Whether pairs (thread, number) keep to what the looks may carry."""
    sums = {}
    for thread, number in pairs:
        for look in bonds[thread]:
            sums[look] = sums.get(look, 0) + number
    return all(total <= (0 if look in shelf else prices.get(look, WORST * 10 ** 40)) for look, total in sums.items())


def is_number(thing):
    return type(thing) is int


def is_rising(items):
    return all(one < other for one, other in zip(items, items[1:]))


def is_ask(plan, thing):
    """Whether any value is an ask of the plan, part by part of point 9."""
    if type(thing) is not tuple or len(thing) not in (1, 3, 5, 7, 9, 11):
        return False
    shapes, sizes = dict(plan.tables), dict(plan.columns)
    for stop in thing[::2]:
        if type(stop) is not tuple or len(stop) != 3 or type(stop[0]) is not str or stop[0] not in sizes:
            return False
        lot, ones = stop[1:]
        if lot is not None and not (
                type(lot) is tuple and lot and all(is_number(value) for value in lot) and is_rising(lot)
                and lot[0] >= 0 and lot[-1] < sizes[stop[0]]):
            return False
        if type(ones) is not tuple or not all(type(name) is str for name in ones) or not is_rising(ones):
            return False
        if not all(shapes.get(name) == (stop[0],) for name in ones):
            return False
    for at, link in enumerate(thing[1::2]):
        if type(link) is not tuple or len(link) != 2 or type(link[0]) is not str or not is_number(link[1]):
            return False
        ends = (thing[2 * at][0], thing[2 * at + 2][0])
        if link[1] not in (0, 1) or shapes.get(link[0]) != ends[::1 - 2 * link[1]]:
            return False
    names = tables_of(thing)
    return len(set(names)) == len(names)


def is_row(plan, ask, thing):
    """Whether any value is a row of the ask."""
    return type(thing) is tuple and all(is_number(value) for value in thing) and thing in rows(plan, ask)


def is_look(plan, thing):
    return (type(thing) is tuple and [type(part) for part in thing] == [str, int, int]
            and thing in looks_by_trial(plan))


def is_fact(plan, thing):
    return (type(thing) is tuple and [type(part) for part in thing] == [str, tuple]
            and all(is_number(value) for value in thing[1]) and thing in facts_by_trial(plan))


def is_prices(plan, thing):
    return type(thing) is dict and all(
        is_look(plan, look) and is_number(number) and 0 <= number <= 10 ** 6 for look, number in thing.items())


def is_load(bonds, prices, shelf, thing):
    """Whether any value is a load, for the threads of an ask with their looks."""
    if type(thing) is not tuple or not all(type(pair) is tuple and len(pair) == 2 for pair in thing):
        return False
    if not all(type(pair[1]) is int and pair[1] >= 1 and is_among(pair[0], bonds) for pair in thing):
        return False
    return is_rising([pair[0] for pair in thing]) and is_carried(bonds, prices, shelf, thing)


def is_among(value, things):
    return any(the_same(value, thing) for thing in things)


def is_answers_item(plan, item):
    """Whether any value is a pair of an ask with at most 5000 rows and some of its rows, ascending."""
    if type(item) is not tuple or len(item) != 2 or not is_ask(plan, item[0]) or type(item[1]) is not tuple:
        return False
    return many_rows(plan, item[0]) <= 5000 and all(is_row(plan, item[0], row) for row in item[1]) and is_rising(item[1])


def first_wrong_answer(plan, thing):
    """The index of the first item that is no such pair, 0 if it is no list, None for answers."""
    if type(thing) not in (list, tuple):
        return 0
    return next((at for at, item in enumerate(thing) if not is_answers_item(plan, item)), None)


def gives(plan, present, answers):
    """Whether the store in which these facts are present has all the answers."""
    return all(answer(plan, ask, present) == list(rows) for ask, rows in answers)


def known(answers):
    """The set IN of point 17."""
    return {fact for ask, rows in answers for row in rows for fact in facts_of_row(ask, row)}


def excluded(plan, item):
    return [row for row in rows(plan, item[0]) if row not in item[1]]


def clash(plan, answers):
    """The first item with an excluded row whose facts are all in IN, and its least one, or None."""
    there = known(answers)
    for at, item in enumerate(answers):
        for row in excluded(plan, item):
            if there.issuperset(facts_of_row(item[0], row)):
                return at, row
    return None


def is_name(thing):
    return type(thing) is str and 1 <= len(thing) <= 8 and set(thing) <= set("abcdefghijklmnopqrstuvwxyz")


def is_web(plan, thing):
    """Whether any value is a web of the plan, part by part of point 23."""
    if type(thing) is not tuple or not 1 <= len(thing) <= 8:
        return False
    shapes, columns, seen = dict(plan.tables), {}, []
    for part in thing:
        if type(part) is not tuple or len(part) != 2 or type(part[0]) is not str or part[0] not in shapes:
            return False
        if type(part[1]) is not tuple or len(part[1]) != len(shapes[part[0]]) or part[0] in seen:
            return False
        seen.append(part[0])
        for mark, column in zip(part[1], shapes[part[0]]):
            if not is_name(mark) or columns.setdefault(mark, column) != column:
                return False
    return True


class Joint:
    """The sets of looks for sale that settle all of several asks and webs, by trying all sets of looks above 0."""

    def __init__(self, plan, questions, present, prices):
        self.bonds = [threads(plan, question, present) for question in questions]
        tables = {name for question in questions for name in tables_of(question)}
        sold = [look for look in sorted(prices) if look[0] in tables]
        self.free = [look for look in sold if prices[look] == 0]
        self.dear = [look for look in sold if prices[look] > 0]
        self.prices = prices
        open_bonds = [those for bonds in self.bonds for those in bonds.values() if not those & set(self.free)]
        masks = [sum(1 << at for at, look in enumerate(self.dear) if look in those) for those in open_bonds]
        self.price = None
        for mask in range(1 << len(self.dear)):
            if all(mask & other for other in masks):
                cost = sum(prices[look] for at, look in enumerate(self.dear) if mask >> at & 1)
                self.price = cost if self.price is None else min(cost, self.price)

    def branches(self, thread, index, bought, refused):
        """The looks of the children of a node with this thread, in their order; None if no node can have it."""
        if set(bought) & self.bonds[index][thread] or set(self.free) & self.bonds[index][thread]:
            return None
        return [look for look in self.dear if look in self.bonds[index][thread] and look not in refused]

    def is_tree(self, number, thing):
        """Whether any value is a tree for the number, walking down from the first node (point 24)."""
        if type(number) is not int or type(thing) is not tuple or not thing:
            return False
        met = []
        return self.is_branch(number, thing, 0, [], [], met) and sorted(met) == list(range(len(thing)))

    def is_branch(self, number, nodes, at, bought, refused, met):
        met.append(at)
        node = nodes[at]
        if the_same(node, ("dear",)):
            return sum(self.prices[look] for look in bought) >= number
        if type(node) is not tuple or len(node) != 3 or type(node[0]) is not int or type(node[2]) is not tuple:
            return False
        if not 0 <= node[0] < len(self.bonds) or not is_among(node[1], self.bonds[node[0]]):
            return False
        looks = self.branches(node[1], node[0], bought, refused)
        if looks is None or len(looks) != len(node[2]):
            return False
        for look, child in zip(looks, node[2]):
            if type(child) is not int or not at < child < len(nodes) or child in met:
                return False
            if not self.is_branch(number, nodes, child, [*bought, look], refused, met):
                return False
            refused = [*refused, look]
        return True
