"""What several tests use: the plan P and the store S of point 5, other plans, and wrong values of every kind."""

from asksold.plans import Plan
from asksold.stores import Store


def plan_p():
    return Plan([("town", 2)], [("inn", ("town",)), ("road", ("town", "town"))])


def store_s():
    return Store(plan_p(), [("inn", (1,)), ("road", (0, 1))])


def widest_plan():
    """A plan with the most columns, values and tables, in no order of their names."""
    columns = [("f", 6), ("bcdefghi", 1), ("a", 2), ("town", 3), ("e", 5), ("d", 4)]
    tables = [
        ("zzzzzzzz", ("f", "f")), ("t", ("a",)), ("town", ("town", "a")), ("b", ("bcdefghi",)),
        ("c", ("bcdefghi", "f")), ("aa", ("e",)), ("ab", ("d", "town")), ("y", ("f",)),
    ]
    return Plan(columns, tables)


def narrowest_plan():
    return Plan([("a", 1)], [("a", ("a",))])


def many_plans():
    return [
        plan_p(),
        widest_plan(),
        narrowest_plan(),
        Plan((("b", 3), ("a", 1)), (("to", ("b", "a")), ("back", ("a", "b")), ("b", ("b",)))),
        Plan([("x", 6)], [("x", ("x", "x"))]),
    ]


def nested(levels, core):
    """A value that holds the core that many levels deep, in lists, tuples and dicts in turn."""
    for level in range(levels):
        core = [[core], (core,), {"a": core}][level % 3]
    return core


def any_values():
    """Values of all kinds that point 3 calls any value, also such that are nearly right somewhere."""
    plain = [
        -10 ** 39, -2, -1, 0, 1, 2, 3, 5, 6, 7, 8, 10 ** 40 - 1, True, False, None,
        "", "a", "z", "b", "town", "inn", "road", "hill", "abcdefgh", "abcdefghi", "Town", "town ", " town", "to wn",
        "town1", "to\nwn", "town\n", "\n", "`", "{", "A", "0", "1", "a_b",
    ]
    lists = [
        [], (), {}, [0], (0,), {0: 0}, [None], (None,), (True,), (False,), ("town",), ["town"], {"town": 2},
        ("town", "town"), ["town", "town"], ("town", "town", "town"), ("hill",), ("town", "hill"), (0, 1), [0, 1],
        (0, 2), (2, 0), (-1, 0), (True, False), (0, 1, 0), ((0,),), ([0],), ({},), (("town",),), (["town"],),
        ("town", 2), ["town", 2], ("town", 0), ("town", 7), ("town", True), ("town", "2"), ("town", None),
        ("inn", ("town",)), ["inn", ("town",)], ("inn", ["town"]), ("inn", "town"), ("inn", ()), ("inn", (None,)),
        ("inn", (0,)), ["inn", (0,)], ("inn", [0]), ("inn", 0), ("inn", (True,)), ("inn", ("0",)), ("inn", (0, 0)),
        ("inn", (2,)), ("inn", (-1,)), ("inn", (None,)), ("inn", ((0,),)), ("hill", (0,)), (None, (0,)), ([], (0,)),
        ("road", (0, 1)), ("road", (0, 2)), ("road", (True, 0)), ("road", (0, False)), ("road", (0,)),
        ("inn", 0, 0), ["inn", 0, 0], ("inn", 0, 1), ("inn", 0, 2), ("inn", 1, 0), ("inn", -1, 0), ("inn", 0, -1),
        ("inn", False, 0), ("inn", 0, True), ("inn", 0, None), ("inn", None, 0), ("inn", "0", 0), ("inn", [], {}),
        ("road", 0, 0), ("road", 1, 1), ("road", 2, 0), ("road", True, 0), ("hill", 0, 0), ({}, 0, 0), (0, 0, 0),
        ("road", 0, 1, 0), ("road", 0), [("town", 2)], (("town", 2),), [("inn", (0,))], (("inn", (0,)),),
        [("inn", 0, 0)], {("inn", (0,)): True}, [[], {}, ()], {"a": [1, {"b": (None, True)}]},
    ]
    deep = [nested(20, core) for core in (0, None, "town", True)] + [nested(3, ("inn", (0,)))]
    return plain + lists + deep


def places(thing):
    """All places inside of lists and tuples, each as a tuple of indexes; () is the whole."""
    found = [()]
    if isinstance(thing, (list, tuple)):
        for at, item in enumerate(thing):
            found.extend([(at, *place) for place in places(item)])
    return found


def replaced(thing, place, value):
    """A copy of the thing with the value at that place."""
    if not place:
        return value
    items = list(thing)
    items[place[0]] = replaced(items[place[0]], place[1:], value)
    return items if isinstance(thing, list) else tuple(items)


def variants(thing):
    """The thing with one of its places replaced by any value, for all places and values."""
    return [replaced(thing, place, value) for place in places(thing) for value in any_values()]


def the_same(one, other):
    """Whether two values are equal and of the same kinds throughout (1 == True is not enough)."""
    if type(one) is not type(other):
        return False
    if isinstance(one, (list, tuple)):
        return len(one) == len(other) and all(the_same(a, b) for a, b in zip(one, other))
    if isinstance(one, dict):
        return the_same(list(one.items()), list(other.items()))
    return one == other
