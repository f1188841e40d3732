"""What several tests use: the plan P and the store S of point 5, other plans, and wrong values of every kind."""

import random

from asksold.asks import answer, rows_of
from asksold.plans import Plan, facts, looks
from asksold.stores import Store


def plan_p():
    return Plan([("town", 2)], [("inn", ("town",)), ("road", ("town", "town"))])


def store_s():
    return Store(plan_p(), [("inn", (1,)), ("road", (0, 1))])


def widest_plan():
    """A plan with the most columns, values and tables, in no order of their names."""
    columns = [("f", 6), ("bcdefghi", 1), ("a", 2), ("town", 3), ("e", 5), ("d", 4)]
    tables = [
        ("zzzzzzzz", ("f", "f")), ("t", ("a",)), ("town", ("town", "a")), ("b", ("bcdefghi",)),
        ("c", ("bcdefghi", "f")), ("aa", ("e",)), ("ab", ("d", "town")), ("y", ("f",)),
    ]
    return Plan(columns, tables)


def narrowest_plan():
    return Plan([("a", 1)], [("a", ("a",))])


def many_plans():
    return [
        plan_p(),
        widest_plan(),
        narrowest_plan(),
        Plan((("b", 3), ("a", 1)), (("to", ("b", "a")), ("back", ("a", "b")), ("b", ("b",)))),
        Plan([("x", 6)], [("x", ("x", "x"))]),
    ]


def nested(levels, core):
    """A value that holds the core that many levels deep, in lists, tuples and dicts in turn."""
    for level in range(levels):
        core = [[core], (core,), {"a": core}][level % 3]
    return core


def any_values():
    """Values of all kinds that point 3 calls any value, also such that are nearly right somewhere."""
    plain = [
        -10 ** 39, -2, -1, 0, 1, 2, 3, 5, 6, 7, 8, 10 ** 40 - 1, True, False, None,
        "", "a", "z", "b", "town", "inn", "road", "hill", "abcdefgh", "abcdefghi", "Town", "town ", " town", "to wn",
        "town1", "to\nwn", "town\n", "\n", "`", "{", "A", "0", "1", "a_b",
    ]
    lists = [
        [], (), {}, [0], (0,), {0: 0}, [None], (None,), (True,), (False,), ("town",), ["town"], {"town": 2},
        ("town", "town"), ["town", "town"], ("town", "town", "town"), ("hill",), ("town", "hill"), (0, 1), [0, 1],
        (0, 2), (2, 0), (-1, 0), (True, False), (0, 1, 0), ((0,),), ([0],), ({},), (("town",),), (["town"],),
        ("town", 2), ["town", 2], ("town", 0), ("town", 7), ("town", True), ("town", "2"), ("town", None),
        ("inn", ("town",)), ["inn", ("town",)], ("inn", ["town"]), ("inn", "town"), ("inn", ()), ("inn", (None,)),
        ("inn", (0,)), ["inn", (0,)], ("inn", [0]), ("inn", 0), ("inn", (True,)), ("inn", ("0",)), ("inn", (0, 0)),
        ("inn", (2,)), ("inn", (-1,)), ("inn", (None,)), ("inn", ((0,),)), ("hill", (0,)), (None, (0,)), ([], (0,)),
        ("road", (0, 1)), ("road", (0, 2)), ("road", (True, 0)), ("road", (0, False)), ("road", (0,)),
        ("inn", 0, 0), ["inn", 0, 0], ("inn", 0, 1), ("inn", 0, 2), ("inn", 1, 0), ("inn", -1, 0), ("inn", 0, -1),
        ("inn", False, 0), ("inn", 0, True), ("inn", 0, None), ("inn", None, 0), ("inn", "0", 0), ("inn", [], {}),
        ("road", 0, 0), ("road", 1, 1), ("road", 2, 0), ("road", True, 0), ("hill", 0, 0), ({}, 0, 0), (0, 0, 0),
        ("road", 0, 1, 0), ("road", 0), [("town", 2)], (("town", 2),), [("inn", (0,))], (("inn", (0,)),),
        [("inn", 0, 0)], {("inn", (0,)): True}, [[], {}, ()], {"a": [1, {"b": (None, True)}]},
    ]
    deep = [nested(20, core) for core in (0, None, "town", True)] + [nested(3, ("inn", (0,)))]
    return plain + lists + deep


def places(thing):
    """All places inside of lists and tuples, each as a tuple of indexes; () is the whole."""
    found = [()]
    if isinstance(thing, (list, tuple)):
        for at, item in enumerate(thing):
            found.extend([(at, *place) for place in places(item)])
    return found


def replaced(thing, place, value):
    """A copy of the thing with the value at that place."""
    if not place:
        return value
    items = list(thing)
    items[place[0]] = replaced(items[place[0]], place[1:], value)
    return items if isinstance(thing, list) else tuple(items)


def variants(thing):
    """The thing with one of its places replaced by any value, for all places and values."""
    return [replaced(thing, place, value) for place in places(thing) for value in any_values()]


def the_same(one, other):
    """Whether two values are equal and of the same kinds throughout (1 == True is not enough)."""
    if type(one) is not type(other):
        return False
    if isinstance(one, (list, tuple)):
        return len(one) == len(other) and all(the_same(a, b) for a, b in zip(one, other))
    if isinstance(one, dict):
        return the_same(list(one.items()), list(other.items()))
    return one == other


def ask_a():
    return (("town", None, ()), ("road", 0), ("town", None, ("inn",)))


def prices_one():
    return {look: 1 for look in looks(plan_p())}


def small_asks():
    """Asks of the plan P: with one stop and two, with and without tables, with lots, forward and back."""
    return [
        ask_a(),
        (("town", None, ()),),
        (("town", (1,), ()),),
        (("town", None, ("inn",)),),
        (("town", (0,), ("inn",)),),
        (("town", None, ()), ("road", 1), ("town", None, ())),
        (("town", (0,), ("inn",)), ("road", 0), ("town", None, ())),
        (("town", (0, 1), ()), ("road", 1), ("town", (1,), ("inn",))),
        (("town", (1,), ()), ("road", 0), ("town", (0,), ())),
    ]


def long_plan():
    """A plan whose asks can have six stops and three ones, with two columns of six values."""
    tables = [(name, ("a", "a")) for name in ("pa", "pb", "pc")] + [("pd", ("a", "b")), ("pe", ("a", "b"))]
    return Plan([("a", 6), ("b", 6)], [*tables, ("qa", ("a",)), ("qb", ("a",)), ("qc", ("b",))])


def long_ask(lots):
    """An ask of the long plan with six stops that names all of its tables."""
    columns, ones = "aaaaba", [("qa",), (), ("qb",), (), ("qc",), ()]
    stops = [(column, lot, names) for column, lot, names in zip(columns, lots, ones)]
    links = [("pa", 0), ("pb", 1), ("pc", 0), ("pd", 0), ("pe", 1)]
    return tuple([part for pair in zip(stops, links) for part in pair] + [stops[5]])


FIVE = (0, 1, 2, 4, 5)


def greatest_asks():
    """Asks of the long plan with exactly 5000 rows and nearly as many, each with six stops."""
    return [
        long_ask([FIVE, (0, 1, 3, 4, 5), FIVE, FIVE, (1, 2, 3, 5), (2, 4)]),
        long_ask([None, None, (3,), None, None, (0, 2, 5)]),
        long_ask([None, (2, 3, 5), None, (0, 1), None, (1, 2, 3)]),
    ]


def too_great_asks():
    """Asks of the long plan with a few and with many more than 5000 rows."""
    return [
        long_ask([FIVE, FIVE, FIVE, FIVE, (1, 2, 3), (2, 3, 4)]),
        long_ask([None] * 6),
    ]


def greatest_cases():
    """Triples of a store, prices and one of the greatest asks: few facts and many, and answers of all sizes."""
    plan = long_plan()
    every = list(facts(plan))
    found = []
    for at, (part, most) in enumerate([(2, 10 ** 6), (5, 3), (8, 10 ** 6), (9, 900), (10, 10 ** 6), (0, 7)]):
        rng = random.Random(at)
        store = Store(plan, [fact for fact in every if rng.randrange(10) < part])
        prices = {look: rng.randint(1, most) for look in looks(plan)}
        found.append((store, prices, greatest_asks()[at % 3]))
    return found


def random_plan(rng):
    """A plan with three columns of a few values; some names of tables are names of columns."""
    columns = [(name, rng.randint(1, 3)) for name in "abc"]
    names = rng.sample(["one", "two", "three", "four", "five", "enter", "a"], rng.randint(1, 7))
    shapes = [tuple(rng.choice("abc") for _ in range(rng.choice([1, 2, 2]))) for _ in names]
    return Plan(columns, list(zip(names, shapes)))


def random_ask(rng, plan):
    """An ask of the plan that walks on as long as it can, or stops before."""
    shapes, sizes, used = dict(plan.tables), dict(plan.columns), set()

    def stop(column):
        ones = [name for name, names in shapes.items() if names == (column,) and name not in used]
        ones = sorted(name for name in ones if rng.random() < 0.6)
        used.update(ones)
        lot = sorted(rng.sample(range(sizes[column]), rng.randint(1, sizes[column])))
        return (column, tuple(lot) if rng.random() < 0.4 else None, tuple(ones))

    parts = [stop(rng.choice(plan.columns)[0])]
    while len(parts) < 11 and rng.random() < 0.85:
        links = [(name, way) for name, names in shapes.items() for way in (0, 1)
                 if len(names) == 2 and name not in used and names[way] == parts[-1][0]]
        if not links:
            break
        link = rng.choice(links)
        used.add(link[0])
        parts.extend([link, stop(shapes[link[0]][1 - link[1]])])
    return tuple(parts)


def random_store(rng, plan):
    part = rng.choice([0, 0.1, 0.3, 0.5, 0.7, 0.9, 1])
    return Store(plan, [fact for fact in facts(plan) if rng.random() < part])


def random_prices(rng, plan):
    """Prices with some looks not for sale and, at times, for nothing; many are equal."""
    least, most, part = rng.choice([0, 1]), rng.choice([1, 2, 3, 5, 100, 10 ** 6]), rng.choice([1, 0.9, 0.7])
    return {look: rng.randint(least, most) for look in looks(plan) if rng.random() < part}


def shuffled(prices):
    """Equal prices in another order."""
    items = list(prices.items())
    return dict(items[1::2] + items[::2])


def random_looks(rng, plan, part=None):
    """A list of looks in any order, with duplicates."""
    part = rng.choice([0, 0, 0.1, 0.3]) if part is None else part
    found = [look for look in looks(plan) if rng.random() < part]
    return rng.sample(found, len(found)) + found[:1]


def small_plan(rng, most_facts=8):
    """A random plan with so few facts that all of its stores can be tried."""
    while True:
        plan = random_plan(rng)
        if len(list(facts(plan))) <= most_facts:
            return plan


def random_answers(rng, plan, true_part=0.8):
    """Answers to asks of the plan: those of one store, or rows by chance, which may be impossible."""
    store = random_store(rng, plan)
    is_true = rng.random() < true_part
    found = []
    for _ in range(rng.choice([0, 1, 1, 2, 2, 3, 4])):
        ask = random_ask(rng, plan)
        rows = answer(store, ask) if is_true else [row for row in rows_of(plan, ask) if rng.random() < 0.4]
        found.append((ask, tuple(rows)))
    return found + found[:1] if rng.random() < 0.2 else found


def possible_answers(rng, plan):
    """Answers that a store of the plan has."""
    return random_answers(rng, plan, 1)


def long_answers():
    """Pairs of a store of the long plan and the answers of that store to great asks, 60 of them at the last."""
    rng = random.Random(1)
    found = []
    for store, _, ask in greatest_cases()[1:5]:
        others = [other for other in greatest_asks() if other != ask]
        found.append((store, [(other, tuple(answer(store, other))) for other in [ask, others[0], ask[:3], ask[4:]]]))
    store = found[1][0]
    asks = [ask[at:at + many] for ask in greatest_asks() for at in range(0, 11, 2) for many in (1, 3, 5, 7) if at + many <= 11]
    asks = [asks[rng.randrange(len(asks))] for _ in range(57)] + greatest_asks()
    found.append((store, [(ask, tuple(answer(store, ask))) for ask in asks]))
    return found


def random_web(rng, plan, most_rows=200):
    """A web of the plan with some of its tables, in any order; each column has a few marks, one may stand twice."""
    sizes = dict(plan.columns)
    while True:
        tables = rng.sample(plan.tables, rng.randint(1, len(plan.tables)))
        names = rng.sample(["a", "b", "c", "d", "e", "f", "g", "x", "mark", "z", "abcdefgh", "town"], 12)
        column_of = dict(zip(names, [column for column, _ in plan.columns * 12]))
        marks = {column: [name for name in names if column_of[name] == column] for column in sizes}
        most = rng.randint(1, 4)
        web = tuple((table, tuple(rng.choice(marks[column][:most]) for column in columns)) for table, columns in tables)
        many = 1
        for mark in {mark for _, those in web for mark in those}:
            many *= sizes[column_of[mark]]
        if many <= most_rows:
            return web


def random_question(rng, plan):
    return random_web(rng, plan) if rng.random() < 0.5 else random_ask(rng, plan)
