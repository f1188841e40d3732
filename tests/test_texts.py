"""Texts of plans, stores, prices and asks, and reading them (points 25 and 26, and (h) of point 2)."""

import random

import oracle
import reading
from asksold.asks import is_ask
from asksold.errors import BadAsk, BadPlan, BadPrices, BadText
from asksold.plans import Plan, facts, looks
from asksold.prices import uniform
from asksold.samples import sample_ask, sample_plan, sample_prices, sample_store
from asksold.stores import Store
from asksold.texts import (
    ask_text, plan_text, prices_text, read_ask, read_plan, read_prices, read_store, store_text,
)
from cases import (
    any_values, greatest_asks, long_plan, many_plans, random_ask, random_plan, random_prices, random_store, shuffled,
    small_asks, too_great_asks, variants, widest_plan,
)
from checks import Checks, outcome
from shop import outcome as right_outcome

P, S, A, ONE = sample_plan(), sample_store(), sample_ask(), sample_prices()
PLAN_TEXT = "column town 2\ntable inn town\ntable road town town\n"
STORE_TEXT = "fact inn 1\nfact road 0 1\n"
PRICES_TEXT = ("price inn 0 0 1\nprice inn 0 1 1\n"
               "price road 0 0 1\nprice road 0 1 1\nprice road 1 0 1\nprice road 1 1 1\n")
MOST = "9" * 40


class ExamplesTest(Checks):
    def test_examples(self):
        self.assertEqual([ask_text(P, A), read_ask(P, "town(1) road< town")],
                         ["town road> town+inn", (("town", (1,), ()), ("road", 1), ("town", None, ()))])

    def test_parameters_by_name(self):
        self.assertEqual([plan_text(plan=P), store_text(store=S), prices_text(prices=ONE, plan=P),
                          ask_text(ask=A, plan=P)], [PLAN_TEXT, STORE_TEXT, PRICES_TEXT, "town road> town+inn"])
        self.assertEqual(read_plan(text=PLAN_TEXT), P)
        self.assertEqual(read_store(text=STORE_TEXT, plan=P), S)
        self.assertEqual(read_prices(text=PRICES_TEXT, plan=P), ONE)
        self.assertEqual(read_ask(text="town road> town+inn", plan=P), A)


class WritingTest(Checks):
    def test_texts_sign_by_sign(self):
        plan = Plan([("b", 3), ("a", 1)], [("to", ("b", "a")), ("back", ("a", "b")), ("b", ("b",))])
        self.assertEqual(plan_text(plan), "column b 3\ncolumn a 1\ntable to b a\ntable back a b\ntable b b\n")
        store = Store(plan, [("to", (2, 0)), ("b", (1,)), ("back", (0, 1)), ("to", (0, 0))])
        self.assertEqual(store_text(store), "fact b 1\nfact back 0 1\nfact to 0 0\nfact to 2 0\n")
        prices = {("to", 1, 0): 10 ** 6, ("b", 0, 2): 0, ("to", 0, 2): 12}
        self.assertEqual(prices_text(plan, prices), "price b 0 2 0\nprice to 0 2 12\nprice to 1 0 1000000\n")
        self.assertEqual(prices_text(plan, shuffled(prices)), prices_text(plan, prices))
        self.assertEqual([store_text(Store(plan)), prices_text(plan, {})], ["", ""])

    def test_asks_sign_by_sign(self):
        plan = Plan([("town", 4), ("line", 2)], [
            ("inn", ("town",)), ("road", ("town", "town")), ("stop", ("line", "town")), ("pub", ("town",)), ("bus", ("line",))])
        for ask, text in [
            ((("town", (0, 1), ()), ("road", 0), ("town", None, ("inn",))), "town(0,1) road> town+inn"),
            ((("town", None, ()),), "town"), ((("town", (3,), ("inn", "pub")),), "town(3)+inn+pub"),
            ((("line", None, ("bus",)), ("stop", 0), ("town", (0, 2, 3), ("pub",))), "line+bus stop> town(0,2,3)+pub"),
            ((("town", None, ()), ("stop", 1), ("line", (1,), ())), "town stop< line(1)"),
        ]:
            self.assertEqual(ask_text(plan, ask), text)
            self.assert_the_same(read_ask(plan, text), ask)

    def test_wrong_prices_and_asks(self):
        for value in [*any_values(), *[{("inn", 0, 0): value} for value in any_values()]]:
            if not oracle.is_prices(P, value):
                self.assert_error(BadPrices, {}, prices_text, P, value)
        for value in [*any_values(), *variants(A)]:
            if not oracle.is_ask(P, value):
                self.assert_error(BadAsk, {}, ask_text, P, value)

    def test_asks_of_any_number_of_rows(self):
        for ask in [*too_great_asks(), *greatest_asks()]:
            self.assert_the_same(read_ask(long_plan(), ask_text(long_plan(), ask)), ask)


class ReadingTest(Checks):
    def test_equal_objects(self):
        rng = random.Random(1)
        for plan in [*many_plans(), long_plan(), *[random_plan(rng) for _ in range(200)]]:
            self.assertEqual(read_plan(plan_text(plan)), plan)
            for store in [Store(plan), Store.full(plan), random_store(rng, plan)]:
                self.assertEqual(read_store(plan, store_text(store)), store)
            for prices in [{}, uniform(plan, 0), uniform(plan, 10 ** 6), random_prices(rng, plan)]:
                self.assertEqual(read_prices(plan, prices_text(plan, shuffled(prices))), prices)
        for _ in range(400):
            plan = random_plan(rng)
            ask = random_ask(rng, plan)
            self.assert_the_same(read_ask(plan, ask_text(plan, ask)), ask)
        for ask in small_asks():
            self.assert_the_same(read_ask(P, ask_text(P, ask)), ask)

    def test_changed_texts(self):
        """Texts with something put in, left out, doubled or changed are read, or refused, as point 25 says."""
        rng = random.Random(2)
        kinds = {}
        for number in range(9000):
            plan = rng.choice([P, *many_plans()]) if rng.random() < 0.4 else random_plan(rng)
            name, values, text = rng.choice([
                ("read_plan", (), plan_text(plan)), ("read_store", (plan,), store_text(random_store(rng, plan))),
                ("read_prices", (plan,), prices_text(plan, random_prices(rng, plan))),
                ("read_ask", (plan,), ask_text(plan, random_ask(rng, plan))),
            ])
            for _ in range(rng.choice([1, 1, 2, 3])):
                text = reading.changed(rng, text)
            call = {"read_plan": read_plan, "read_store": read_store, "read_prices": read_prices, "read_ask": read_ask}[name]
            wanted = right_outcome(getattr(reading, name), *values, text)
            found = outcome(call, *values, text)
            self.assertEqual(found, wanted, (plan.columns, plan.tables, text))
            self.assertIs(type(found[1]), type(wanted[1]))
            kinds[name, wanted[0]] = kinds.get((name, wanted[0]), 0) + 1
        self.assertEqual(len(kinds), 10)
        self.assertGreater(min(kinds.values()), 40)

    def test_any_value(self):
        for value in any_values():
            for name, call, values in [("read_plan", read_plan, ()), ("read_store", read_store, (P,)),
                                       ("read_prices", read_prices, (P,)), ("read_ask", read_ask, (P,))]:
                wanted = right_outcome(getattr(reading, name), *values, value)
                self.assertEqual(outcome(call, *values, value), wanted)
                if type(value) is not str:
                    self.assertEqual(wanted, ("BadText", {"row": 0}))

    def check_rows(self, call, values, texts):
        for text, row in texts:
            with self.subTest(text=text):
                if row is None:
                    call(*values, text)
                elif row == "BadPlan":
                    self.assert_error(BadPlan, {}, call, *values, text)
                else:
                    self.assert_error(BadText, {"row": row}, call, *values, text)

    def test_plans(self):
        self.check_rows(read_plan, (), [
            ("", 0), ("\n", 0), ("column a 1", 1), ("column a 1\n", 1), ("column a 1\ntable t a", 2),
            ("column a 1\ntable t a\n", None), ("table t a\n", 0), ("table t a\ncolumn a 1\n", 0), ("table t a", 0),
            ("column a 1\ntable t a\ncolumn b 1\n", 2), ("column a 1\n\ntable t a\n", 1), ("column a 1\ntable t a\n\n", 2),
            ("column a 01\ntable t a\n", 0), ("column a +1\ntable t a\n", 0), ("column a -1\ntable t a\n", 0),
            ("column a\n", 0), ("column a 1 1\n", 0), ("column  a 1\n", 0), (" column a 1\n", 0), ("column a 1 \n", 0),
            ("columns a 1\n", 0), ("Column a 1\n", 0), ("column A 1\n", 0), ("column abcdefghi 1\n", 0),
            ("column abcdefgh 1\ntable t abcdefgh\n", None), ("column a one\n", 0), ("column a 1.0\n", 0),
            ("column a 1\ntable t\n", 1), ("column a 1\ntable t a a a\n", 1), ("column a 1\ntable t \n", 1),
            ("column a 1\ntable t a \n", 1), ("column a 1\ntable t a1\n", 1), ("column a 1\ntable t  a\n", 1),
            ("column a 0\ntable t a\n", "BadPlan"), ("column a 7\ntable t a\n", "BadPlan"),
            (f"column a {MOST}\ntable t a\n", "BadPlan"), ("column a 6\ntable t a a\n", None),
            ("column a 1\ncolumn a 1\ntable t a\n", "BadPlan"), ("column a 1\ntable t b\n", "BadPlan"),
            ("column a 1\ntable t a\ntable t a\n", "BadPlan"), ("column a 7\ntable t b", 2), ("column a 7\ntable t 1\n", 1),
            ("".join(f"column {name} 1\n" for name in "abcdefg") + "table t a\n", "BadPlan"),
            ("column a 1\n" + "".join(f"table {name} a\n" for name in "abcdefghi"), "BadPlan"),
            ("column a 1\n" + "".join(f"table {name} a\n" for name in "abcdefgh"), None),
        ])

    def test_names_that_are_words_of_the_texts(self):
        plan = Plan([("column", 1), ("table", 2)], [("table", ("column", "table")), ("fact", ("table",)), ("price", ("column",))])
        text = "column column 1\ncolumn table 2\ntable table column table\ntable fact table\ntable price column\n"
        self.assertEqual(plan_text(plan), text)
        self.assertEqual(read_plan(text), plan)
        self.assertEqual(store_text(Store.full(plan)), "fact fact 0\nfact fact 1\nfact price 0\nfact table 0 0\nfact table 0 1\n")
        self.assertEqual(read_store(plan, store_text(Store.full(plan))), Store.full(plan))
        self.assertEqual(read_prices(plan, prices_text(plan, uniform(plan, 3))), uniform(plan, 3))

    def test_stores(self):
        self.assertEqual(read_store(P, ""), Store(P))
        self.check_rows(read_store, (P,), [
            ("\n", 0), ("fact inn 1", 1), ("fact inn 1\n", None), ("fact inn 1\nfact inn 1\n", 1),
            ("fact inn 1\nfact inn 0\n", 1), ("fact inn 0\nfact inn 1", 2), ("fact road 0 0\nfact inn 0\n", 1),
            ("fact road 0 1\nfact road 0 0\n", 1), ("fact inn 2\n", 0), ("fact inn 01\n", 0), ("fact inn 0 0\n", 0),
            ("fact inn\n", 0), ("fact inn \n", 0), ("fact hill 0\n", 0), ("fact road 0\n", 0), ("fact road 0 1 0\n", 0),
            ("fact town 0\n", 0), ("facts inn 0\n", 0), ("fact  inn 0\n", 0), ("fact inn 0 \n", 0), ("fact inn -0\n", 0),
            (f"fact inn {MOST}\n", 0), ("fact inn 0\nprice inn 0 0 1\n", 1), ("fact inn 0\n\n", 1), ("inn 0\n", 0),
            ("fact inn 1\nfact inn 0", 1), ("fact inn 1\nfact inn 1", 1),
        ])

    def test_prices(self):
        self.assert_the_same(read_prices(P, ""), {})
        self.check_rows(read_prices, (P,), [
            ("\n", 0), ("price inn 0 1 5", 1), ("price inn 0 1 5\n", None), ("price inn 0 1 5\nprice inn 0 1 5\n", 1),
            ("price inn 0 1 5\nprice inn 0 1 6\n", 1), ("price inn 0 1 5\nprice inn 0 0 9\n", 1),
            ("price road 1 0 5\nprice road 0 1 5\n", 1), ("price inn 0 1 1000000\n", None), ("price inn 0 1 1000001\n", 0),
            (f"price inn 0 1 {MOST}\n", 0), ("price inn 0 1 -1\n", 0), ("price inn 0 1 -\n", 0), ("price inn 0 1 05\n", 0),
            ("price inn 0 1\n", 0), ("price inn 0 1 5 5\n", 0), ("price inn 1 0 5\n", 0), ("price inn 0 2 5\n", 0),
            ("price hill 0 0 5\n", 0), ("price  0 0 5\n", 0), ("prices inn 0 0 5\n", 0), ("fact inn 0\n", 0),
            ("price inn 0 0 5 \n", 0), ("price inn 00 0 5\n", 0), ("price inn 0 0 0\n", None),
        ])

    def test_asks(self):
        for text in [
            "", " ", "town ", " town", "town  road> town", "town road> ", "town road>", "road>", "road> town", "town town",
            "town road town", "town road>town", "town road>> town", "town road> town road>", "town()", "town(", "town)",
            "town(0", "town0)", "town(0,)", "town(,0)", "town(0,,1)", "town(00)", "town(01)", "town(-1)", "town(+1)",
            "town(0)(1)", "town(0)inn", "town+", "town+inn+", "town++inn", "+inn", "town+inn(0)", "town(0+inn)", "town(a)",
            "Town", "town1", "abcdefghi", "town+abcdefghi", "town road- town", "town road> town\n", "town\n", "town(0, 1)",
            "town(0 1)", "town <road town", "town road> town+inn ", "(0)", "town road> (0)", "town > town", "town(0,1", "town((0))",
        ]:
            with self.subTest(text=text):
                self.assert_error(BadText, {"row": 0}, read_ask, P, text)
        for text in [
            "hill", "inn", "town+hill", "town+town", "town+inn+inn", "town(2)", "town(1,0)", "town(0,0)", f"town({MOST})",
            "town hill> town", "town inn> town", "town road> town road< town", "town+road", "town road> town road> town",
            "town road> town road> town road> town road> town road> town road> town", "town road> hill",
            "town+inn road> town+inn",
        ]:
            with self.subTest(text=text):
                self.assert_error(BadAsk, {}, read_ask, P, text)
        self.assertIs(is_ask(P, read_ask(P, "town(0,1)+inn road< town(1)")), True)

    def test_the_widest_plan(self):
        plan = widest_plan()
        self.assertEqual(plan_text(plan).count("\n"), 14)
        self.assertEqual(len(store_text(Store.full(plan)).split("\n")) - 1, len(list(facts(plan))))
        self.assertEqual(len(prices_text(plan, uniform(plan, 1)).split("\n")) - 1, len(list(looks(plan))))


if __name__ == "__main__":
    import unittest
    unittest.main()
