"""What point 3 promises over the whole package: for every function, method and generator of the interface."""

import copy
import inspect

from asksold.asks import threads
from asksold.desk import Desk
from asksold.errors import AskError
from asksold.joint import joint_tree
from asksold.judging import story_of
from asksold.market import Market, replayed
from asksold.plans import Plan
from asksold.prices import load
from asksold.samples import sample_ask, sample_plan, sample_prices, sample_store
from asksold.stores import Store
from asksold.texts import plan_text, prices_text, store_text
from cases import any_values, shuffled, the_same
from checks import Checks
from shop import state_of
from test_interface import CLASSES, FUNCTIONS, module

P, S, A, ONE = sample_plan(), sample_store(), sample_ask(), sample_prices()
LOOKS = [("inn", 0, 0), ("inn", 0, 1), ("road", 1, 1)]
WEB = (("road", ("a", "b")), ("inn", ("b",)))
OTHER = (("town", (1,), ("inn",)),)
ANSWERS = [(A, ((0, 1),)), (OTHER, ((1,),))]
DEEDS = [("buyer", "ann"), ("sell", "ann", A), ("buyer", "bob"), ("hand", "ann", "bob", 0), ("price", ("inn", 0, 0), 3)]
DEAR = {**ONE, ("road", 0, 1): 5}
USUAL = {
    "plan": P, "the_plan": P, "the_number": 3, "store": S, "one": S, "other": S.with_facts(("inn", (0,))), "looks": LOOKS,
    "look": ("inn", 0, 1), "fact": ("inn", (1,)), "ask": A, "row": (0, 1), "prices": DEAR, "shelf": [], "number": 3,
    "answers": ANSWERS, "web": WEB, "questions": [A, OTHER], "rows": [(0, 1)], "log": DEEDS, "deeds": DEEDS,
    "column": "town", "table": "road", "columns": P.columns, "tables": P.tables, "present": list(S.facts),
    "name": "ann", "deed": ("sell", "bob", A),
}
SPECIAL = {
    "is_name": {"thing": "town"}, "is_fact": {"thing": ("inn", (1,))}, "is_look": {"thing": ("inn", 0, 1)},
    "is_ask": {"thing": A}, "is_prices": {"thing": ONE}, "is_web": {"thing": WEB}, "is_answers": {"thing": ANSWERS},
    "is_load": {"thing": load(S, ONE, A), "prices": ONE}, "shows": {"thing": load(S, ONE, A), "prices": ONE},
    "is_reason_for": {"thing": (0, (0, 1))}, "clash": {"answers": [(A, ((0, 1),)), (OTHER, ())]},
    "is_joint_tree": {"thing": joint_tree(S, DEAR, [A, OTHER])}, "read_plan": {"text": plan_text(P)},
    "read_store": {"text": store_text(S)}, "read_prices": {"text": prices_text(P, ONE)},
    "read_ask": {"text": "town road> town+inn"}, "answers": {"text": "plan\n" + plan_text(P) + "done\nbuyer ann\nundo\n"},
    "sees": {"look": ("inn", 0, 1)}, "needless": {"looks": [*LOOKS, ("road", 0, 0)]},
}
LISTS = ["looks", "shelf", "answers", "questions", "log", "deeds", "story", "columns", "tables", "present"]


def market():
    return replayed(S, ONE, DEEDS)


def given_to(name, function):
    """The usual arguments of a function, by its parameters' names."""
    usual = {**USUAL, "market": market(), "story": story_of(market()), **SPECIAL.get(name, {})}
    return {parameter: usual[parameter] for parameter, kind in inspect.signature(function).parameters.items()
            if kind.kind in (kind.POSITIONAL_OR_KEYWORD, kind.KEYWORD_ONLY)}


def result(function, values, named):
    found = function(*values, **named)
    return list(found) if inspect.isgenerator(found) else found


def ways(function, given):
    """The ways to pass the arguments: by position, by names, by names in other orders, some by position."""
    only = [name for name, kind in inspect.signature(function).parameters.items() if kind.kind == kind.KEYWORD_ONLY]
    front = [name for name in given if name not in only]
    for many in range(len(front) + 1):
        named = {name: given[name] for name in front[many:] + only}
        values = [given[name] for name in front[:many]]
        yield values, named
        yield values, dict(reversed(named.items()))
        yield values, dict(sorted(named.items()))


def seen(thing):
    """What can be seen of any value, also of objects of the package."""
    if isinstance(thing, Market):
        return ("market", *state_of(thing))
    if isinstance(thing, (Plan, Store)):
        return repr(type(thing)), thing.columns if isinstance(thing, Plan) else thing.facts
    if isinstance(thing, (list, tuple)):
        return type(thing)([seen(item) for item in thing])
    if isinstance(thing, dict):
        return {name: seen(item) for name, item in thing.items()}
    return thing


class WholeTest(Checks):
    def functions(self):
        for file, functions in FUNCTIONS.items():
            for name in functions:
                yield name, vars(module(file))[name]

    def check_ways(self, function, given):
        wanted = seen(result(function, [], given))
        for values, named in ways(function, given):
            before = seen((values, list(named.items())))
            found = result(function, values, named)
            self.assert_the_same(seen(found), wanted)
            self.assert_the_same(seen((values, list(named.items()))), before)
            if isinstance(found, (list, dict)):
                found.clear()
        self.assert_the_same(seen(result(function, [], given)), wanted)
        return wanted

    def test_functions_by_position_and_by_names(self):
        for name, function in self.functions():
            with self.subTest(name=name):
                self.check_ways(function, given_to(name, function))

    def test_equal_arguments(self):
        """Prices in another order, tuples for lists and copies of everything make no difference."""
        for name, function in self.functions():
            given = given_to(name, function)
            wanted = seen(result(function, [], given))
            with self.subTest(name=name):
                other = {key: shuffled(value) if isinstance(value, dict) else value for key, value in given.items()}
                self.assert_the_same(seen(result(function, [], other)), wanted)
                other = {key: tuple(value) if key in LISTS else copy.deepcopy(value) for key, value in given.items()}
                self.assert_the_same(seen(result(function, [], other)), wanted)

    def test_methods_by_position_and_by_names(self):
        for file, classes in CLASSES.items():
            for kind, methods in classes.items():
                for name in methods:
                    if not name.startswith("__"):
                        with self.subTest(kind=kind, name=name):
                            self.check_method(kind, name)

    def check_method(self, kind, name):
        made = {"Plan": lambda: sample_plan(), "Store": lambda: sample_store(), "Market": market, "Desk": Desk}[kind]
        method = getattr(made(), name)
        given = given_to("", lambda: None) if not inspect.signature(method).parameters else {
            parameter: {**USUAL, "row": "plan"}[parameter] if kind == "Desk" else USUAL[parameter]
            for parameter, sort in inspect.signature(method).parameters.items() if sort.kind == sort.POSITIONAL_OR_KEYWORD}
        given = {**given, "deeds": DEEDS[-1:]} if "deeds" in given else given
        wanted = None
        for values, named in ways(method, given):
            thing = made()
            found = seen(result(getattr(thing, name), values, named))
            wanted = (found, seen(thing)) if wanted is None and kind != "Desk" else wanted
            if kind != "Desk":
                self.assert_the_same((found, seen(thing)), wanted)
            else:
                self.assertEqual(found, "..")

    def test_classes_by_position_and_by_names(self):
        for kind, given in [(Plan, ["columns", "tables"]), (Store, ["plan", "present"]), (Market, ["store", "prices"])]:
            named = {name: USUAL[name] for name in given}
            wanted = kind(**named)
            for values, rest in [(list(named.values()), {}), ([named[given[0]]], {given[1]: named[given[1]]}),
                                 ([], dict(reversed(named.items())))]:
                self.assertEqual(kind(*values, **rest), wanted)

    def test_functions_that_take_any_value(self):
        """They raise nothing, return a bool, an index or None, and change nothing."""
        for name, function in self.functions():
            given = given_to(name, function)
            if name == "first_wrong" or "thing" in given:
                for value in any_values():
                    passed = {**given, "story" if name == "first_wrong" else "thing": copy.deepcopy(value)}
                    found = function(**passed)
                    self.assertIs(type(found), int if name == "first_wrong" else bool)
                    self.assert_the_same(passed.get("thing", value), value)

    def test_errors_are_of_one_class_alone(self):
        """With any value for one parameter, a function returns, or raises an error of one of the listed classes.

        Only parameters are taken for which some error is stated.
        """
        stated = ["ask", "prices", "looks", "shelf", "answers", "fact", "web", "questions", "log", "text", "look", "deeds"]
        for name, function in self.functions():
            given = given_to(name, function)
            for parameter in given:
                if parameter not in stated or name == "sees":
                    continue
                for value in any_values():
                    passed = {**given, parameter: copy.deepcopy(value)}
                    with self.subTest(name=name, parameter=parameter, value=value):
                        try:
                            result(function, [], passed)
                        except AskError as error:
                            self.assertIs(type(error).__bases__[0], AskError)
                        self.assertTrue(the_same(passed[parameter], value))

    def test_a_generator_raises_with_the_first_item(self):
        generator = threads(S, None)
        with self.assertRaises(AskError):
            next(generator)


if __name__ == "__main__":
    import unittest
    unittest.main()
