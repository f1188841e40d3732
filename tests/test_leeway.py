"""How the price depends on one look, and on one fact (points 8, 12 and 15)."""

import random

import oracle
from asksold.errors import BadAsk, BadFact, BadLook, BadPrices, NotForSale, TooMany
from asksold.leeway import both_prices, leeway, mays, musts
from asksold.plans import Plan, facts, looks
from asksold.prices import cheapest, price, uniform
from asksold.settling import settles
from asksold.stores import Store
from cases import (
    any_values, ask_a, greatest_asks, greatest_cases, long_plan, plan_p, prices_one, random_ask, random_looks,
    random_plan, random_prices, random_store, small_asks, store_s, the_same, too_great_asks, variants,
)
from checks import Checks


def random_cases(many, seed, dearest=10):
    """Tuples of a store, prices and an ask, where all sets of looks can be tried."""
    rng = random.Random(seed)
    while many > 0:
        plan = random_plan(rng)
        store, prices, ask = random_store(rng, plan), random_prices(rng, plan), random_ask(rng, plan)
        tables = oracle.tables_of(ask)
        if len([look for look in prices if look[0] in tables]) <= dearest:
            many -= 1
            yield store, prices, ask


def trial(store, prices, ask, shelf=()):
    return oracle.Offer(store.plan, ask, store.facts, prices, shelf)


def without(prices, look):
    return {other: number for other, number in prices.items() if other != look}


def smaller(one, other):
    """The smaller one of two prices, where None is greater than every number."""
    if one is None or other is None:
        return other if one is None else one
    return min(one, other)


def plus(number, more):
    return None if number is None else number + more


class ExamplesTest(Checks):
    def test_examples(self):
        S, A, ONE = store_s(), ask_a(), prices_one()
        self.assertEqual(
            [musts(S, ONE, A), len(mays(S, ONE, A)), leeway(S, ONE, A, ("inn", 0, 1))], [[("inn", 0, 1)], 6, (2, None)])

    def test_parameters_by_name(self):
        S, A, ONE = store_s(), ask_a(), prices_one()
        named = {"store": S, "prices": ONE, "ask": A}
        self.assertEqual(leeway(**named, look=("inn", 0, 1), shelf=[("road", 0, 0)]), (1, None))
        self.assertEqual(leeway(S, ONE, A, ("inn", 0, 1), shelf=()), (2, None))
        self.assertEqual(musts(**named), [("inn", 0, 1)])
        self.assertEqual(len(mays(**named)), 6)
        self.assertEqual(both_prices(**named, fact=("inn", (1,))), both_prices(S, ONE, A, ("inn", (1,))))
        with self.assertRaises(TypeError):
            leeway(S, ONE, A, ("inn", 0, 1), [])


class LeewayTest(Checks):
    def test_the_price_at_every_price_of_the_look(self):
        rng = random.Random(1)
        kinds = set()
        for store, prices, ask in random_cases(150, 1):
            shelf = random_looks(rng, store.plan)
            for look in looks(store.plan):
                if look in shelf:
                    continue
                low, high = leeway(store, prices, ask, look, shelf=shelf)
                self.assert_the_same(low, trial(store, prices, ask, [*shelf, look]).price)
                self.assert_the_same(high, trial(store, without(prices, look), ask, shelf).price)
                self.assertEqual(price(store, without(prices, look), ask, shelf=shelf), high)
                for number in [0, 1, 2, rng.randrange(100), 10 ** 6]:
                    found = price(store, {**prices, look: number}, ask, shelf=shelf)
                    self.assertEqual(found, smaller(plus(low, number), high))
                kinds.add((low is None, high is None, low == high))
        self.assertEqual(len(kinds), 4)

    def test_all_looks_of_the_plan_p(self):
        for ask in small_asks():
            for prices in [prices_one(), uniform(plan_p(), 5, inn=None), {}]:
                for look in looks(plan_p()):
                    wanted = (trial(store_s(), prices, ask, [look]).price,
                              trial(store_s(), without(prices, look), ask).price)
                    self.assert_the_same(leeway(store_s(), prices, ask, look), wanted)

    def test_a_look_that_is_not_for_sale(self):
        prices = uniform(plan_p(), 1, inn=None)
        self.assertEqual(leeway(store_s(), prices, ask_a(), ("inn", 0, 1)), (2, None))
        self.assertEqual(leeway(store_s(), prices, ask_a(), ("inn", 0, 0)), (None, None))

    def test_the_greatest_asks(self):
        for store, prices, ask in greatest_cases():
            look = sorted(prices)[len(store) % len(prices)]
            low, high = leeway(store, prices, ask, look)
            self.assertEqual(smaller(plus(low, prices[look]), high), price(store, prices, ask))
            self.assertEqual(smaller(plus(low, 17), high), price(store, {**prices, look: 17}, ask))
            self.assertEqual(price(store, prices, ask, shelf=[look]), low)


class MustsAndMaysTest(Checks):
    def test_all_sets_of_looks(self):
        kinds = set()
        for store, prices, ask in random_cases(800, 2):
            found = trial(store, prices, ask)
            if found.price is None:
                thread = {"thread": found.unsold[0]}
                self.assert_error(NotForSale, thread, musts, store, prices, ask)
                self.assert_error(NotForSale, thread, mays, store, prices, ask)
                continue
            self.assert_the_same(musts(store, prices, ask), found.musts())
            self.assert_the_same(mays(store, prices, ask), found.mays())
            kinds.add((len(found.musts()) > 0, len(found.mays()) > len(found.musts())))
        self.assertEqual(len(kinds), 4)

    def test_musts_are_in_the_basket_and_its_looks_above_0_are_mays(self):
        for store, prices, ask in random_cases(300, 3):
            if price(store, prices, ask) is not None:
                basket = cheapest(store, prices, ask)
                self.assertLessEqual(set(musts(store, prices, ask)), set(basket))
                self.assertLessEqual({look for look in basket if prices[look] > 0}, set(mays(store, prices, ask)))

    def check_changes(self, store, prices, ask, those):
        """What becomes of the price with a look on the shelf and without it."""
        number, all_mays, all_musts = price(store, prices, ask), mays(store, prices, ask), musts(store, prices, ask)
        for look in those:
            if prices.get(look, 0) > 0:
                on_shelf = price(store, prices, ask, shelf=[look])
                self.assertEqual(number - on_shelf == prices[look], look in all_mays)
                self.assertLessEqual(number - on_shelf, prices[look])
            rest = price(store, without(prices, look), ask)
            if look in all_musts:
                self.assertTrue(rest is None or rest > number)
            elif prices.get(look, 1) > 0:
                self.assertEqual(rest, number)

    def test_the_price_with_a_look_on_the_shelf_and_without_it(self):
        for store, prices, ask in random_cases(200, 4):
            if price(store, prices, ask) is not None:
                self.check_changes(store, prices, ask, looks(store.plan))

    def test_looks_for_nothing_are_neither(self):
        free = uniform(plan_p(), 0, inn=2)
        self.assertEqual(musts(store_s(), free, ask_a()), [("inn", 0, 1)])
        self.assertEqual(mays(store_s(), free, ask_a()), [("inn", 0, 1)])
        self.assertEqual(musts(store_s(), uniform(plan_p(), 0), ask_a()), [])
        self.assertEqual(mays(store_s(), uniform(plan_p(), 0), ask_a()), [])

    def test_an_ask_that_names_no_table(self):
        for prices in [{}, prices_one()]:
            self.assertEqual(musts(store_s(), prices, (("town", None, ()),)), [])
            self.assertEqual(mays(store_s(), prices, (("town", None, ()),)), [])

    def test_the_greatest_asks(self):
        for store, prices, ask in greatest_cases():
            all_mays = mays(store, prices, ask)
            self.assertEqual(all_mays, sorted(all_mays))
            self.check_changes(store, prices, ask, sorted(prices)[::19] + all_mays[:2])
            self.assertLessEqual(set(musts(store, prices, ask)), set(all_mays))

    def test_equal_arguments_give_equal_results_in_new_lists(self):
        for store, prices, ask in random_cases(60, 5):
            if price(store, prices, ask) is not None:
                turned = dict(list(prices.items())[::-1])
                twin = Store(Plan(list(store.plan.columns), list(store.plan.tables)), store.facts[::-1])
                for call in [musts, mays]:
                    found = call(store, prices, ask)
                    self.assertEqual(call(twin, turned, ask), found)
                    found.append(0)
                    self.assertNotEqual(call(store, prices, ask), found)


class BothPricesTest(Checks):
    def test_each_fact(self):
        for store, prices, ask in random_cases(200, 6):
            had = store.facts
            for fact in facts(store.plan):
                turned = set(had) ^ {fact}
                wanted = (trial(store, prices, ask).price, oracle.Offer(store.plan, ask, turned, prices).price)
                self.assert_the_same(both_prices(store, prices, ask, fact), wanted)
                self.assertEqual(store.facts, had)

    def test_inserted_and_deleted(self):
        ask = (("town", None, ()), ("road", 0), ("town", None, ("inn",)))
        self.assertEqual(both_prices(store_s(), prices_one(), ask, ("inn", (1,))), (3, 2))
        store = store_s().without_facts(("inn", (1,)))
        self.assertEqual(both_prices(store, prices_one(), ask, ("inn", (1,))), (2, 3))
        self.assertEqual(both_prices(store, {}, ask, ("inn", (1,))), (None, None))

    def test_the_greatest_asks(self):
        for store, prices, ask in greatest_cases():
            fact = ("pc", (2, 4))
            other = Store(store.plan, sorted(set(store.facts) ^ {fact}))
            self.assertEqual(
                both_prices(store, prices, ask, fact), (price(store, prices, ask), price(other, prices, ask)))


class ErrorsTest(Checks):
    def calls(self):
        return [
            musts, mays,
            lambda store, prices, ask: leeway(store, prices, ask, ("inn", 0, 0)),
            lambda store, prices, ask: leeway(store, prices, ask, None),
            lambda store, prices, ask: both_prices(store, prices, ask, ("inn", (0,))),
            lambda store, prices, ask: both_prices(store, prices, ask, None),
        ]

    def test_any_value_as_prices(self):
        for value in any_values():
            if not oracle.is_prices(plan_p(), value):
                for call in self.calls():
                    self.assert_error(BadPrices, {}, call, store_s(), value, ask_a())
            if type(value) is not int or not 0 <= value <= 10 ** 6:
                for call in self.calls():
                    self.assert_error(BadPrices, {}, call, store_s(), {("inn", 0, 0): value}, ask_a())

    def test_any_value_as_ask(self):
        for value in [*any_values(), *variants(ask_a())[::7]]:
            if not oracle.is_ask(plan_p(), value):
                for call in self.calls():
                    self.assert_error(BadAsk, {}, call, store_s(), prices_one(), value)

    def test_any_value_as_look(self):
        given = (store_s(), prices_one(), ask_a())
        for value in [*any_values(), *variants(("road", 0, 1)), *facts(plan_p()), [("inn", 0, 0)]]:
            if not oracle.is_look(plan_p(), value):
                with self.subTest(value=value):
                    self.assert_error(BadLook, {"at": 0}, leeway, *given, value)
                    self.assert_error(BadLook, {"at": 0}, leeway, *given, value, shelf=[("inn", 0, 0), ("inn", 0, 1)])
        for shelf in [[("inn", 0, 1)], (("inn", 0, 0), ("inn", 0, 1), ("inn", 0, 1))]:
            self.assert_error(BadLook, {"at": 0}, leeway, *given, ("inn", 0, 1), shelf=shelf)
            self.assertEqual(leeway(*given, ("road", 0, 0), shelf=shelf)[1], price(*given, shelf=shelf))

    def test_any_value_as_shelf(self):
        given = (store_s(), prices_one(), ask_a(), ("inn", 0, 0))
        for value in any_values():
            for shelf in [value, [value], [("inn", 0, 1), value]]:
                is_list = type(shelf) in (list, tuple)
                wrong = [at for at, item in enumerate(shelf) if not oracle.is_look(plan_p(), item)] if is_list else [0]
                if wrong:
                    self.assert_error(BadLook, {"at": wrong[0]}, leeway, *given, shelf=shelf)

    def test_any_value_as_fact(self):
        for value in [*any_values(), *variants(("road", (0, 1))), *looks(plan_p())]:
            if not oracle.is_fact(plan_p(), value):
                with self.subTest(value=value):
                    self.assert_error(BadFact, {}, both_prices, store_s(), prices_one(), ask_a(), value)

    def test_order_of_the_errors(self):
        plan = long_plan()
        right = {"store": Store(plan), "prices": uniform(plan, 1), "ask": greatest_asks()[1]}
        great = {"most": 5000}
        prices = [("prices", None, BadPrices, {}), ("prices", {("pa", 0, 6): 1}, BadPrices, {})]
        shelf = [("shelf", None, BadLook, {"at": 0}), ("shelf", [("pa", 0, 5), ("pa", 0, 6)], BadLook, {"at": 1})]
        asks = [("ask", None, BadAsk, {}), ("ask", greatest_asks()[1][:-1], BadAsk, {}),
                ("ask", too_great_asks()[0], TooMany, great)]
        thread = ("absent", (0, 0, 3, 0, 0, 0))
        unsold = [("prices", {}, NotForSale, {"thread": thread})]
        self.assert_order(musts, right, prices + asks + unsold)
        self.assert_order(mays, right, prices + asks + unsold)
        looks = [("look", None, BadLook, {"at": 0}), ("look", ("pb", 0, 5), BadLook, {"at": 0})]
        more = {**right, "look": ("pb", 0, 4), "shelf": [("pb", 0, 5)]}
        self.assert_order(leeway, more, prices + shelf + asks + looks)
        facts = [("fact", None, BadFact, {}), ("fact", ("pa", (0, 6)), BadFact, {})]
        self.assert_order(both_prices, {**right, "fact": ("pa", (0, 5))}, prices + asks + facts)

    def test_without_a_price_there_is_no_error_but_not_for_sale(self):
        self.assertEqual(leeway(store_s(), {}, ask_a(), ("inn", 0, 1)), (None, None))
        self.assertEqual(both_prices(store_s(), {}, ask_a(), ("inn", (1,))), (None, None))
        self.assert_error(NotForSale, {"thread": ("absent", (0, 0))}, musts, store_s(), {}, ask_a())
        self.assert_error(NotForSale, {"thread": ("absent", (0, 0))}, mays, store_s(), {}, ask_a())

    def test_arguments_stay(self):
        prices, shelf = prices_one(), [("road", 0, 1)] * 2
        leeway(store_s(), prices, ask_a(), ("inn", 0, 0), shelf=shelf)
        musts(store_s(), prices, ask_a())
        mays(store_s(), prices, ask_a())
        both_prices(store_s(), prices, ask_a(), ("inn", (0,)))
        self.assertTrue(the_same([prices, shelf], [prices_one(), [("road", 0, 1)] * 2]))


class NamesTest(Checks):
    """Prices hang on the threads alone (points 7, 9, 12 to 15)."""

    def renamed(self, store, prices, ask):
        """The same under other names of columns and tables, in another order."""
        plan = store.plan
        columns = {name: "x" + name for name, _ in plan.columns}
        tables = {name: "zyxwvuts"[at] for at, (name, _) in enumerate(plan.tables)}
        new = Plan(
            [(columns[name], many) for name, many in plan.columns][::-1],
            [(tables[name], tuple(columns[column] for column in names)) for name, names in plan.tables][::-1])
        stops = [(columns[column], lot, tuple(sorted(tables[name] for name in ones))) for column, lot, ones in ask[::2]]
        links = [(tables[name], way) for name, way in ask[1::2]] + [None]
        return (
            Store(new, [(tables[table], row) for table, row in store.facts]),
            {(tables[table], side, value): number for (table, side, value), number in prices.items()},
            tuple(part for pair in zip(stops, links) for part in pair if part is not None))

    def exchanged(self, store, prices, ask, column):
        """The same with the values of a column in opposite order."""
        plan = store.plan
        shapes, many = dict(plan.tables), dict(plan.columns)[column]

        def turn(name, value):
            return many - 1 - value if name == column else value

        stops = [(name, lot and tuple(sorted(turn(name, value) for value in lot)), ones) for name, lot, ones in ask[::2]]
        return (
            Store(plan, [(table, tuple(map(turn, shapes[table], row))) for table, row in store.facts]),
            {(table, side, turn(shapes[table][side], value)): number
             for (table, side, value), number in prices.items()},
            tuple(part for pair in zip(stops, [*ask[1::2], None]) for part in pair if part is not None))

    def numbers(self, store, prices, ask):
        """The price, and for how many looks each pair of leeway occurs, however they are called."""
        if price(store, prices, ask) is None:
            return None
        pairs = [leeway(store, prices, ask, look) for look in prices]
        return (price(store, prices, ask), len(musts(store, prices, ask)), len(mays(store, prices, ask)),
                sorted(repr(pair) for pair in pairs))

    def test_names_values_and_direction(self):
        for store, prices, ask in random_cases(120, 7):
            found = self.numbers(store, prices, ask)
            self.assertEqual(self.numbers(*self.renamed(store, prices, ask)), found)
            for column, _ in store.plan.columns:
                self.assertEqual(self.numbers(*self.exchanged(store, prices, ask, column)), found)
            self.assertEqual(self.numbers(store, prices, oracle.reverse(ask)), found)

    def test_the_greatest_asks(self):
        for store, prices, ask in greatest_cases():
            number = price(store, prices, ask)
            self.assertEqual(price(*self.renamed(store, prices, ask)), number)
            self.assertEqual(price(*self.exchanged(store, prices, ask, "a")), number)
            basket = cheapest(*self.renamed(store, prices, ask))
            self.assertIs(settles(self.renamed(store, prices, ask)[0], basket, self.renamed(store, prices, ask)[2]), True)
