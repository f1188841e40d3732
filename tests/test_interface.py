"""All names of the interface exist as written."""

import importlib
import inspect
import unittest

import asksold
from asksold.errors import AskError

FUNCTIONS = {
    "plans": {
        "is_name": "(thing)", "is_fact": "(plan, thing)", "is_look": "(plan, thing)", "facts": "(plan)",
        "looks": "(plan)", "sees": "(look, fact)", "seers": "(plan, fact)",
    },
    "stores": {"agree": "(one, other, looks)"},
    "asks": {
        "is_ask": "(plan, thing)", "count_rows": "(plan, ask)", "rows_of": "(plan, ask)",
        "facts_of": "(plan, ask, row)", "answer": "(store, ask)", "threads": "(store, ask)",
    },
    "settling": {
        "settles": "(store, looks, ask)", "open_row": "(store, looks, ask)", "other_store": "(store, looks, ask)",
        "reason": "(store, looks, ask, row)", "needless": "(store, looks, ask)",
    },
    "prices": {
        "is_prices": "(plan, thing)", "uniform": "(the_plan, the_number, **tables)",
        "price": "(store, prices, ask, *, shelf=())", "cheapest": "(store, prices, ask, *, shelf=())",
        "load": "(store, prices, ask, *, shelf=())", "is_load": "(store, prices, ask, thing, *, shelf=())",
        "shows": "(store, prices, ask, number, looks, thing, *, shelf=())",
    },
    "leeway": {
        "leeway": "(store, prices, ask, look, *, shelf=())", "musts": "(store, prices, ask)",
        "mays": "(store, prices, ask)", "both_prices": "(store, prices, ask, fact)",
    },
    "told": {
        "is_answers": "(plan, thing)", "clash": "(plan, answers)", "implied_store": "(plan, answers)",
    },
    "sure": {
        "status": "(plan, answers, fact)", "reason_for": "(plan, answers, fact)",
        "is_reason_for": "(plan, answers, fact, thing)", "determined": "(plan, answers, ask)",
        "two_stores": "(plan, answers, ask)", "sure_rows": "(plan, answers, ask)", "ask_of_look": "(plan, look)",
    },
    "consistent": {
        "overpriced": "(plan, prices)", "consistent": "(plan, prices)", "reductions": "(plan, prices)",
    },
    "market": {"replayed": "(store, prices, log)"},
    "webs": {
        "is_web": "(plan, thing)", "web_of": "(plan, ask)", "web_rows": "(plan, web)", "web_answer": "(store, web)",
        "web_threads": "(store, web)", "web_settles": "(store, looks, web)",
    },
    "joint": {
        "joint_price": "(store, prices, questions)", "joint_tree": "(store, prices, questions)",
        "is_joint_tree": "(store, prices, questions, number, thing)",
    },
    "judging": {
        "story_of": "(market)", "first_wrong": "(story)", "concludes": "(story, ask, rows, *names)",
    },
    "texts": {
        "plan_text": "(plan)", "store_text": "(store)", "prices_text": "(plan, prices)", "ask_text": "(plan, ask)",
        "read_plan": "(text)", "read_store": "(plan, text)", "read_prices": "(plan, text)", "read_ask": "(plan, text)",
    },
    "desk": {"answers": "(text)"},
    "samples": {"sample_plan": "()", "sample_store": "()", "sample_ask": "()", "sample_prices": "()"},
}
CLASSES = {
    "plans": {"Plan": {
        "__init__": "(self, columns, tables)", "__eq__": "(self, other)", "size_of": "(self, column)",
        "sides": "(self, table)",
    }},
    "stores": {"Store": {
        "__init__": "(self, plan, present=())", "__eq__": "(self, other)", "__len__": "(self)", "has": "(self, fact)",
        "rows": "(self, table)", "seen": "(self, look)", "with_facts": "(self, *facts)",
        "without_facts": "(self, *facts)",
    }},
    "market": {"Market": {
        "__init__": "(self, store, prices)", "__eq__": "(self, other)", "do": "(self, deed)",
        "all_done": "(self, deeds)", "price_for": "(self, name, ask)", "shelf": "(self, name)",
        "heard": "(self, name)", "purse": "(self, name)", "infers": "(self, ask, *names)", "log": "(self)",
        "twin": "(self)",
    }},
    "desk": {"Desk": {"__init__": "(self)", "say": "(self, row)"}},
}
PROPERTIES = {
    ("plans", "Plan"): ["columns", "tables"], ("stores", "Store"): ["plan", "facts"],
    ("market", "Market"): ["store", "prices", "time", "buyers"],
}
GENERATORS = [
    ("plans", "facts"), ("plans", "looks"), ("asks", "rows_of"), ("asks", "threads"), ("webs", "web_rows"),
    ("webs", "web_threads"),
]


def module(name):
    return importlib.import_module("asksold." + name)


class InterfaceTest(unittest.TestCase):
    def test_the_package_itself_defines_nothing(self):
        modules = {*FUNCTIONS, "errors", "flows"}
        names = {name for name in vars(asksold) if not name.startswith("__")}
        self.assertLessEqual(names, modules)

    def test_functions(self):
        for file, functions in FUNCTIONS.items():
            for name, signature in functions.items():
                with self.subTest(file=file, name=name):
                    function = vars(module(file))[name]
                    self.assertEqual(function.__module__, "asksold." + file)
                    self.assertEqual(str(inspect.signature(function)), signature)

    def test_classes_define_their_methods_themselves(self):
        for file, classes in CLASSES.items():
            for name, methods in classes.items():
                kind = vars(module(file))[name]
                self.assertEqual(kind.__module__, "asksold." + file)
                for method, signature in methods.items():
                    with self.subTest(file=file, name=name, method=method):
                        self.assertEqual(str(inspect.signature(vars(kind)[method])), signature)

    def test_properties(self):
        for (file, name), properties in PROPERTIES.items():
            for attribute in properties:
                self.assertIsInstance(vars(vars(module(file))[name])[attribute], property)

    def test_generators(self):
        for file, functions in FUNCTIONS.items():
            for name in functions:
                is_generator = inspect.isgeneratorfunction(vars(module(file))[name])
                self.assertIs(is_generator, (file, name) in GENERATORS, name)
        self.assertTrue(inspect.isgeneratorfunction(module("market").Market.log))

    def test_full_is_called_off_the_class(self):
        self.assertIn("full", vars(module("stores").Store))
        self.assertEqual(str(inspect.signature(module("stores").Store.full)), "(plan)")

    def test_errors_take_what_the_interface_lists(self):
        listed = {
            "BadLook": "(at)", "TooMany": "(most)", "NotForSale": "(thread)", "BadAnswers": "(at)",
            "Contradiction": "(at)", "NoBuyer": "(name)", "BadDeed": "(at)", "BadStory": "(row)", "BadText": "(row)",
        }
        for name, signature in listed.items():
            kind = vars(module("errors"))[name]
            self.assertTrue(issubclass(kind, AskError))
            self.assertEqual(str(inspect.signature(kind)), signature)


if __name__ == "__main__":
    unittest.main()
