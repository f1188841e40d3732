"""Prices, baskets and loads (points 12, 13, 14 and what point 15 says of a look on the shelf)."""

import random

import oracle
from asksold.asks import answer
from asksold.errors import BadAsk, BadLook, BadPrices, NotForSale, TooMany
from asksold.plans import Plan, facts, looks
from asksold.prices import cheapest, is_load, is_prices, load, price, shows, uniform
from asksold.settling import settles
from asksold.stores import Store
from cases import (
    any_values, ask_a, greatest_asks, greatest_cases, long_plan, many_plans, narrowest_plan, plan_p, prices_one,
    random_ask, random_looks, random_plan, random_prices, random_store, shuffled, small_asks, store_s, the_same,
    too_great_asks, variants, widest_plan,
)
from checks import Checks

LOOKS = [("inn", 0, 0), ("inn", 0, 1), ("road", 1, 1)]
LOAD = ((("absent", (0, 0)), 1), (("absent", (1, 1)), 1), (("present", ("inn", (1,))), 1))


def random_cases(many, seed, dearest=11):
    """Tuples of a store, prices, an ask, a shelf, and all that trying shows of them."""
    rng = random.Random(seed)
    while many > 0:
        plan = random_plan(rng)
        store, prices, ask = random_store(rng, plan), random_prices(rng, plan), random_ask(rng, plan)
        shelf = random_looks(rng, plan)
        tables = oracle.tables_of(ask)
        if len([look for look in prices if look[0] in tables]) <= dearest:
            many -= 1
            yield store, prices, ask, shelf, oracle.Offer(plan, ask, store.facts, prices, shelf)


class ExamplesTest(Checks):
    def test_examples(self):
        P, S, A, ONE = plan_p(), store_s(), ask_a(), prices_one()
        found = [price(S, ONE, A), price(S, uniform(P, 1, inn=5), A), price(S, uniform(P, 1, inn=None), A)]
        self.assertEqual(found, [3, 7, None])
        looks = [("inn", 0, 0), ("inn", 0, 1), ("road", 1, 1)]
        load = ((("absent", (0, 0)), 1), (("absent", (1, 1)), 1), (("present", ("inn", (1,))), 1))
        self.assertEqual([shows(S, ONE, A, 3, looks, load), shows(S, ONE, A, 3, looks, load[:2])], [True, False])

    def test_parameters_by_name(self):
        P, S, A, ONE = plan_p(), store_s(), ask_a(), prices_one()
        self.assertIs(is_prices(plan=P, thing=ONE), True)
        named = {"store": S, "prices": ONE, "ask": A, "shelf": []}
        self.assertEqual(price(**named), 3)
        self.assertEqual(cheapest(**named), LOOKS)
        self.assertEqual(load(**named), load(S, ONE, A))
        self.assertIs(is_load(**named, thing=LOAD), True)
        self.assertIs(shows(**named, number=3, looks=LOOKS, thing=LOAD), True)

    def test_the_shelf_is_passed_by_name_only(self):
        for call, more in [(price, ()), (cheapest, ()), (load, ()), (is_load, (LOAD,)), (shows, (3, LOOKS, LOAD))]:
            with self.assertRaises(TypeError):
                call(store_s(), prices_one(), ask_a(), *more, [])


class IsPricesTest(Checks):
    def test_any_value(self):
        for value in any_values():
            self.assertIs(is_prices(plan_p(), value), oracle.is_prices(plan_p(), value))
            self.assertIs(is_prices(plan_p(), {("inn", 0, 0): value}), type(value) is int and 0 <= value <= 10 ** 6)

    def test_any_value_as_look(self):
        for value in [*any_values(), *variants(("road", 0, 1)), *facts(plan_p())]:
            try:
                hash(value)
            except TypeError:
                continue
            with self.subTest(value=value):
                right = oracle.is_look(plan_p(), value)
                self.assertIs(is_prices(plan_p(), {value: 1}), right)
                self.assertIs(is_prices(plan_p(), {value: 1, ("inn", 0, 0): 1}), right)

    def test_bounds(self):
        for number, right in [(0, True), (10 ** 6, True), (10 ** 6 + 1, False), (-1, False), (True, False)]:
            self.assertIs(is_prices(plan_p(), {("inn", 0, 1): number}), right)
        self.assertIs(is_prices(plan_p(), {}), True)
        self.assertIs(is_prices(plan_p(), [(("inn", 0, 1), 1)]), False)
        self.assertIs(is_prices(plan_p(), ()), False)
        self.assertIs(is_prices(plan_p(), prices_one()), True)
        self.assertIs(is_prices(narrowest_plan(), prices_one()), False)


class UniformTest(Checks):
    def test_all_plans(self):
        for plan in many_plans():
            every = list(looks(plan))
            for number in [0, 1, 10 ** 6]:
                self.assert_the_same(uniform(plan, number), {look: number for look in every})
            self.assertEqual(uniform(plan, None), {})
            for table, _ in plan.tables:
                for one, other in [(1, 5), (1, None), (None, 0), (0, 10 ** 6), (None, None)]:
                    wanted = {look: other if look[0] == table else one for look in every}
                    wanted = {look: number for look, number in wanted.items() if number is not None}
                    self.assert_the_same(uniform(plan, one, **{table: other}), wanted)
                    self.assertIs(is_prices(plan, uniform(plan, one, **{table: other})), True)

    def test_by_name_and_by_position(self):
        P = plan_p()
        self.assertEqual(uniform(the_plan=P, the_number=1), prices_one())
        self.assertEqual(uniform(P, the_number=1, inn=2, road=2), uniform(P, 2))
        self.assertEqual(uniform(P, None, inn=2), {("inn", 0, 0): 2, ("inn", 0, 1): 2})

    def test_names_of_tables_that_other_functions_use(self):
        plan = Plan([("a", 1)], [(name, ("a",)) for name in ["plan", "number", "tables", "self", "prices"]])
        found = uniform(plan, 1, plan=2, number=3, tables=4, self=5)
        self.assertEqual(sorted(found.values()), [1, 2, 3, 4, 5])

    def test_wrong_numbers(self):
        for value in [*any_values(), 10 ** 6, 10 ** 6 + 1]:
            if value is None or type(value) is int and 0 <= value <= 10 ** 6:
                continue
            with self.subTest(value=value):
                self.assert_error(BadPrices, {}, uniform, plan_p(), value)
                self.assert_error(BadPrices, {}, uniform, plan_p(), value, inn=1, road=1)
                self.assert_error(BadPrices, {}, uniform, plan_p(), 1, inn=value)
                self.assert_error(BadPrices, {}, uniform, plan_p(), 1, inn=1, road=value)

    def test_wrong_names(self):
        for name in ["hill", "town", "Inn", "inn ", "", "plan", "a_b"]:
            for number in [1, None, -1]:
                self.assert_error(BadPrices, {}, uniform, plan_p(), 1, **{name: number})
                self.assert_error(BadPrices, {}, uniform, plan_p(), None, inn=1, **{name: number})

    def test_what_is_passed_stays_and_results_are_new(self):
        given = {"inn": 5, "road": None}
        found = uniform(plan_p(), 1, **given)
        self.assertEqual(given, {"inn": 5, "road": None})
        found.clear()
        self.assertEqual(len(uniform(plan_p(), 1, **given)), 2)


class PriceTest(Checks):
    def check(self, store, prices, ask, shelf, trial):
        self.assert_the_same(price(store, prices, ask, shelf=shelf), trial.price)
        if trial.price is None:
            thread = trial.unsold[0]
            self.assert_error(NotForSale, {"thread": thread}, cheapest, store, prices, ask, shelf=shelf)
            self.assert_error(NotForSale, {"thread": thread}, load, store, prices, ask, shelf=shelf)
            return
        self.assertEqual(trial.unsold, [])
        basket = cheapest(store, prices, ask, shelf=shelf)
        self.assert_the_same(basket, trial.basket())
        self.assertIs(settles(store, [*basket, *shelf], ask), True)
        self.assertEqual(sum(prices[look] for look in basket), trial.price)
        found = load(store, prices, ask, shelf=shelf)
        self.assertTrue(oracle.is_load(trial.bonds, prices, shelf, found), found)
        self.assertEqual(sum(number for _, number in found), trial.price)
        self.assertIs(is_load(store, prices, ask, found, shelf=shelf), True)
        self.assertIs(shows(store, prices, ask, trial.price, basket, found, shelf=shelf), True)

    def test_prices_baskets_and_loads(self):
        kinds = set()
        for store, prices, ask, shelf, trial in random_cases(2500, 1):
            with self.subTest(plan=store.plan.tables, facts=store.facts, prices=prices, ask=ask, shelf=shelf):
                before = (dict(prices), list(shelf), store.facts)
                self.check(store, prices, ask, shelf, trial)
                self.assertEqual((prices, shelf, store.facts), before)
            kinds.add((trial.price is None, trial.price == 0, len(ask) > 5, bool(answer(store, ask)), bool(shelf)))
        self.assertGreater(len(kinds), 20)

    def test_every_store_of_the_plan_p(self):
        rng = random.Random(2)
        for present in oracle.all_presents(plan_p()):
            store = Store(plan_p(), present)
            for ask in small_asks():
                for prices in [prices_one(), random_prices(rng, plan_p())]:
                    trial = oracle.Offer(plan_p(), ask, present, prices)
                    self.check(store, prices, ask, (), trial)

    def test_a_table_with_two_equal_columns_and_lots_of_one_value(self):
        rng = random.Random(3)
        plan = Plan([("a", 2)], [("r", ("a", "a")), ("s", ("a", "a")), ("one", ("a",))])
        a = ("a", None, ())
        asks = [(a, ("r", 0), a, ("s", 1), a), (a, ("r", 1), ("a", (1,), ("one",)), ("s", 0), a),
                (("a", (0,), ()), ("s", 0), ("a", (0,), ()), ("r", 1), ("a", (0,), ("one",)))]
        for ask in asks:
            for _ in range(60):
                store, prices, shelf = random_store(rng, plan), random_prices(rng, plan), random_looks(rng, plan)
                self.check(store, prices, ask, shelf, oracle.Offer(plan, ask, store.facts, prices, shelf))

    def test_six_stops(self):
        rng = random.Random(4)
        plan = Plan([("a", 1), ("b", 2)], [
            ("r", ("a", "b")), ("s", ("b", "a")), ("t", ("a", "b")), ("u", ("b", "a")), ("v", ("a", "a")),
            ("one", ("a",)), ("two", ("b",)), ("three", ("b",))])
        a, b = ("a", None, ()), ("b", None, ())
        ask = (a, ("r", 0), ("b", None, ("two",)), ("s", 0), a, ("t", 0), b, ("u", 0), ("a", None, ("one",)), ("v", 1), a)
        for _ in range(60):
            store, prices = random_store(rng, plan), random_prices(rng, plan)
            gone = rng.sample(sorted(prices), max(0, len(prices) - 12))
            prices = {look: number for look, number in prices.items() if look not in gone}
            for those in [ask, oracle.reverse(ask)]:
                shelf = random_looks(rng, plan, 0.3)
                self.check(store, prices, those, shelf, oracle.Offer(plan, those, store.facts, prices, shelf))

    def test_an_ask_that_names_no_table(self):
        for prices in [{}, prices_one(), uniform(plan_p(), 0)]:
            for ask in [(("town", None, ()),), (("town", (1,), ()),)]:
                self.assertEqual(price(store_s(), prices, ask), 0)
                self.assertEqual(cheapest(store_s(), prices, ask), [])
                self.assertEqual(load(store_s(), prices, ask), ())

    def test_looks_for_nothing(self):
        free = uniform(plan_p(), 0)
        self.assertEqual(price(store_s(), free, ask_a()), 0)
        self.assertEqual(cheapest(store_s(), free, ask_a()), list(looks(plan_p())))
        self.assertEqual(load(store_s(), free, ask_a()), ())
        self.assertEqual(cheapest(store_s(), free, ask_a(), shelf=LOOKS), [("road", 0, 0), ("road", 0, 1), ("road", 1, 0)])
        ask = (("town", (0,), ("inn",)),)
        self.assertEqual(cheapest(store_s(), free, ask), [("inn", 0, 0), ("inn", 0, 1)])
        self.assertEqual(cheapest(store_s(), {**prices_one(), ("inn", 0, 1): 0}, ask), [("inn", 0, 0), ("inn", 0, 1)])

    def test_the_basket_is_the_least_list(self):
        ask = (("town", None, ()), ("road", 0), ("town", None, ()))
        self.assertEqual(cheapest(store_s(), prices_one(), ask), [("road", 0, 0), ("road", 0, 1)])
        dear = {**prices_one(), ("road", 0, 0): 2}
        self.assertEqual(cheapest(store_s(), dear, ask), [("road", 1, 0), ("road", 1, 1)])
        dear = {("road", 0, 0): 1, ("road", 0, 1): 3, ("road", 1, 0): 2, ("road", 1, 1): 2}
        self.assertEqual(cheapest(store_s(), dear, ask), [("road", 0, 0), ("road", 0, 1)])

    def test_nothing_for_sale(self):
        for ask in small_asks():
            bonds = list(oracle.threads(plan_p(), ask, store_s().facts))
            if bonds:
                self.assertIsNone(price(store_s(), {}, ask))
                self.assert_error(NotForSale, {"thread": bonds[0]}, cheapest, store_s(), {}, ask)
                self.assert_error(NotForSale, {"thread": bonds[0]}, load, store_s(), {}, ask)
            every = list(looks(plan_p()))
            self.assertEqual(price(store_s(), {}, ask, shelf=every), 0)
            self.assertEqual(cheapest(store_s(), {}, ask, shelf=every), [])
            self.assertEqual(load(store_s(), {}, ask, shelf=every), ())

    def test_the_least_thread_that_is_not_for_sale(self):
        prices = uniform(plan_p(), 1, road=None)
        self.assert_error(NotForSale, {"thread": ("absent", (1, 1))}, cheapest, store_s(), prices, ask_a())
        more = {"shelf": [("road", 0, 1)]}
        thread = ("present", ("road", (0, 1)))
        self.assert_error(NotForSale, {"thread": thread}, cheapest, store_s(), prices, ask_a(), **more)
        self.assert_error(NotForSale, {"thread": thread}, load, store_s(), prices, ask_a(), **more)
        self.assertEqual(price(store_s(), prices, ask_a(), shelf=[("road", 0, 1), ("road", 1, 1)]), 2)

    def test_an_ask_read_backwards(self):
        for store, prices, ask, shelf, trial in random_cases(300, 5):
            back = oracle.reverse(ask)
            self.assertEqual(price(store, prices, back, shelf=shelf), trial.price)
            if trial.price is not None:
                self.assertEqual(cheapest(store, prices, back, shelf=shelf), trial.basket())

    def test_sets_that_settle_cost_at_least_the_price(self):
        rng = random.Random(6)
        for store, prices, ask, shelf, trial in random_cases(150, 6):
            for _ in range(20):
                those = [look for look in prices if look not in shelf and rng.random() < 0.6]
                if settles(store, those + shelf, ask):
                    self.assertGreaterEqual(sum(prices[look] for look in those), trial.price)

    def test_fewer_values_of_a_stop(self):
        for store, prices, ask, shelf, trial in random_cases(200, 7):
            if trial.price is None:
                continue
            for at, lot in enumerate(oracle.lots(store.plan, ask)):
                for many in range(1, len(lot)):
                    parts = [ask[:2 * at] + ((ask[2 * at][0], those, ask[2 * at][2]),) + ask[2 * at + 1:]
                             for those in (lot[:many], lot[many:])]
                    costs = [price(store, prices, part, shelf=shelf) for part in parts]
                    self.assertLessEqual(max(costs), trial.price)
                    self.assertLessEqual(trial.price, sum(costs))
                    both = [look for part in parts for look in cheapest(store, prices, part, shelf=shelf)]
                    self.assertIs(settles(store, both + shelf, ask), True)

    def test_equal_arguments_give_equal_results(self):
        for store, prices, ask, shelf, trial in random_cases(200, 8):
            twin = Store(Plan(list(store.plan.columns), list(store.plan.tables)), store.facts[::-1])
            for other in [prices, shuffled(prices)]:
                for more in [shelf, shelf[::-1], tuple(shelf) + tuple(shelf)]:
                    self.assertEqual(price(twin, other, ask, shelf=more), trial.price)
                    if trial.price is not None:
                        found = load(store, prices, ask, shelf=shelf)
                        self.assert_the_same(load(twin, other, ask, shelf=more), found)
                        self.assertEqual(cheapest(twin, other, ask, shelf=more), trial.basket())

    def test_returned_lists_are_new(self):
        cheapest(store_s(), prices_one(), ask_a()).clear()
        self.assertEqual(cheapest(store_s(), prices_one(), ask_a()), LOOKS)


class ShelfTest(Checks):
    def test_a_look_on_the_shelf_is_like_a_look_that_costs_0(self):
        for store, prices, ask, shelf, trial in random_cases(150, 9):
            for look in looks(store.plan):
                on_shelf = price(store, prices, ask, shelf=[*shelf, look])
                self.assertEqual(price(store, {**prices, look: 0}, ask, shelf=shelf), on_shelf)
                rest = {other: number for other, number in prices.items() if other != look}
                self.assertEqual(price(store, rest, ask, shelf=[look, *shelf]), on_shelf)
                if trial.price is not None:
                    self.assertLessEqual(on_shelf, trial.price)

    def test_looks_that_are_not_for_sale(self):
        prices = {("inn", 0, 0): 4, ("inn", 0, 1): 5}
        shelf = [("road", 1, 1), ("road", 0, 1), ("road", 1, 1)]
        self.assertIsNone(price(store_s(), prices, ask_a()))
        self.assertEqual(price(store_s(), prices, ask_a(), shelf=shelf), 9)
        self.assertEqual(cheapest(store_s(), prices, ask_a(), shelf=shelf), LOOKS[:2])
        self.assertEqual(price(store_s(), prices, ask_a(), shelf=shelf + [("inn", 0, 1)]), 4)
        self.assertEqual(price(store_s(), {}, ask_a(), shelf=LOOKS), 0)

    def test_looks_at_other_tables(self):
        ask = (("town", None, ("inn",)),)
        self.assertEqual(price(store_s(), prices_one(), ask, shelf=[("road", 0, 0)]), 2)
        self.assertEqual(cheapest(store_s(), prices_one(), ask, shelf=[("road", 0, 0)]), LOOKS[:2])


class GreatestAsksTest(Checks):
    def test_prices_baskets_and_loads(self):
        rng = random.Random(10)
        for store, prices, ask in greatest_cases():
            bonds = oracle.threads(store.plan, ask, store.facts)
            some = {look: number for look, number in prices.items() if rng.random() < 0.98}
            for offered, shelf in [(prices, []), (some, random_looks(rng, store.plan, 0.2)), ({}, [])]:
                number = price(store, offered, ask, shelf=shelf)
                unsold = [thread for thread, those in bonds.items()
                          if not any(look in offered or look in shelf for look in those)]
                self.assertEqual(number is None, bool(unsold))
                if number is None:
                    named = {"shelf": shelf}
                    self.assert_error(NotForSale, {"thread": unsold[0]}, cheapest, store, offered, ask, **named)
                    self.assert_error(NotForSale, {"thread": unsold[0]}, load, store, offered, ask, **named)
                    self.assertIs(is_load(store, offered, ask, (), **named), True)
                    self.assertIs(shows(store, offered, ask, 0, [], (), **named), False)
                    continue
                basket, found = cheapest(store, offered, ask, shelf=shelf), load(store, offered, ask, shelf=shelf)
                self.assertTrue(oracle.settled(bonds, [*basket, *shelf]))
                self.assertEqual(sum(offered[look] for look in basket), number)
                self.assertTrue(oracle.is_load(bonds, offered, shelf, found))
                self.assertEqual(sum(part for _, part in found), number)
                self.assertIs(is_load(store, offered, ask, found, shelf=shelf), True)
                self.assertIs(shows(store, offered, ask, number, basket, found, shelf=shelf), True)
                self.assertIs(shows(store, offered, ask, number + 1, basket, found, shelf=shelf), False)

    def test_prices_do_not_depend_on_the_direction(self):
        for store, prices, ask in greatest_cases():
            number = price(store, prices, ask)
            self.assertEqual(price(store, prices, oracle.reverse(ask)), number)
            self.assertEqual(cheapest(store, prices, oracle.reverse(ask)), cheapest(store, prices, ask))
            self.assertIn(price(store, {**prices, ("pa", 0, 2): 0}, ask), range(number + 1))


class IsLoadTest(Checks):
    def check(self, store, prices, ask, thing, shelf, bonds):
        right = oracle.is_load(bonds, prices, shelf, thing)
        self.assertIs(is_load(store, prices, ask, thing, shelf=shelf), right, thing)

    def test_any_value(self):
        for store, prices, shelf in [(store_s(), prices_one(), ()), (store_s(), uniform(plan_p(), 3, inn=None), LOOKS)]:
            bonds = oracle.threads(plan_p(), ask_a(), store.facts)
            for thing in [*any_values(), *variants(LOAD), *variants((LOAD[2],)), *variants(LOAD[:1]), list(LOAD)]:
                self.check(store, prices, ask_a(), thing, shelf, bonds)

    def test_numbers_up_to_the_prices_and_beyond(self):
        rng = random.Random(11)
        verdicts = []
        for store, prices, ask, shelf, trial in random_cases(300, 11):
            bonds = list(trial.bonds)
            for _ in range(10):
                some = sorted(rng.sample(bonds, rng.randint(0, min(3, len(bonds)))))
                thing = tuple((thread, rng.choice([1, 1, 2, 3, 10 ** 6, 10 ** 39])) for thread in some)
                self.check(store, prices, ask, thing, shelf, trial.bonds)
                verdicts.append((is_load(store, prices, ask, thing, shelf=shelf), len(thing)))
        self.assertEqual(len(set(verdicts)), 7)

    def test_threads_are_ascending_and_distinct(self):
        self.assertIs(is_load(store_s(), prices_one(), ask_a(), LOAD[::-1]), False)
        self.assertIs(is_load(store_s(), uniform(plan_p(), 5), ask_a(), LOAD[:1] * 2), False)
        self.assertIs(is_load(store_s(), prices_one(), ask_a(), (LOAD[2], LOAD[0])), False)
        self.assertIs(is_load(store_s(), prices_one(), ask_a(), ()), True)
        self.assertIs(is_load(store_s(), prices_one(), ask_a(), []), False)

    def test_rows_and_facts_that_are_not_threads(self):
        for thread in [("absent", (0, 1)), ("present", ("inn", (0,))), ("present", ("road", (0, 0))),
                       ("absent", ("inn", (0,))), ("present", (0, 1)), ("absent", (0, 2)), ("gone", (0, 0)),
                       ("absent", (False, 0)), ("absent", [0, 0]), ["absent", (0, 0)], ("absent",), (0, (0, 0))]:
            self.assertIs(is_load(store_s(), prices_one(), ask_a(), ((thread, 1),)), False)

    def test_a_look_on_the_shelf_carries_nothing(self):
        thing = ((("present", ("inn", (1,))), 1),)
        self.assertIs(is_load(store_s(), prices_one(), ask_a(), thing), True)
        self.assertIs(is_load(store_s(), prices_one(), ask_a(), thing, shelf=[("inn", 0, 1)]), False)
        self.assertIs(is_load(store_s(), {}, ask_a(), thing, shelf=[("inn", 0, 1)]), False)
        self.assertIs(is_load(store_s(), {}, ask_a(), thing), True)
        self.assertIs(is_load(store_s(), {}, ask_a(), ((thing[0][0], 10 ** 39),)), True)

    def test_no_load_is_more_than_the_price(self):
        for store, prices, ask, shelf, trial in random_cases(100, 12):
            if trial.price is None:
                continue
            found = dict(load(store, prices, ask, shelf=shelf))
            for thread in trial.bonds:
                more = {**found, thread: found.get(thread, 0) + 1}
                thing = tuple(sorted(more.items()))
                self.assertIs(is_load(store, prices, ask, thing, shelf=shelf), False)


class ShowsTest(Checks):
    def check(self, store, prices, ask, number, bought, thing, shelf, bonds):
        right = (
            type(number) is int and type(bought) in (list, tuple)
            and all(oracle.is_look(store.plan, look) and look in prices and look not in shelf for look in bought)
            and oracle.is_rising(bought) and sum(prices[look] for look in bought) == number
            and oracle.settled(bonds, [*bought, *shelf]) and oracle.is_load(bonds, prices, shelf, thing)
            and sum(pair[1] for pair in thing) == number)
        self.assertIs(shows(store, prices, ask, number, bought, thing, shelf=shelf), right, (number, bought, thing))
        return right

    def test_any_value(self):
        bonds = oracle.threads(plan_p(), ask_a(), store_s().facts)
        given = (store_s(), prices_one(), ask_a())
        for value in any_values():
            self.check(*given, value, LOOKS, LOAD, (), bonds)
            self.check(*given, 3, value, LOAD, (), bonds)
            self.check(*given, 3, LOOKS, value, (), bonds)
            self.check(*given, value, value, value, (), bonds)
        for bought in variants(LOOKS):
            self.check(*given, 3, bought, LOAD, (), bonds)
        for thing in variants(LOAD):
            self.check(*given, 3, LOOKS, thing, (), bonds)
        self.assertTrue(self.check(*given, 3, tuple(LOOKS), LOAD, (), bonds))

    def test_all_lists_of_looks_and_numbers(self):
        shown = 0
        for store, prices, ask, shelf, trial in random_cases(30, 13, 7):
            if trial.price is None:
                continue
            found = load(store, prices, ask, shelf=shelf)
            for those in oracle.sets_of(sorted(prices))[:200]:
                for number in [trial.price, trial.price + 1, sum(prices[look] for look in those)]:
                    shown += self.check(store, prices, ask, number, list(those), found, shelf, trial.bonds)
        self.assertGreater(shown, 20)

    def test_looks_in_another_order_twice_on_the_shelf_or_not_for_sale(self):
        S, A, ONE = store_s(), ask_a(), prices_one()
        self.assertIs(shows(S, ONE, A, 3, LOOKS[::-1], LOAD), False)
        free = {**ONE, ("inn", 0, 0): 0}
        self.assertIs(shows(S, free, A, 2, LOOKS, LOAD[1:]), True)
        self.assertIs(shows(S, free, A, 2, LOOKS[:1] + LOOKS, LOAD[1:]), False)
        self.assertIs(shows(S, ONE, A, 2, LOOKS[1:], LOAD[1:], shelf=LOOKS[:1]), True)
        self.assertIs(shows(S, free, A, 2, LOOKS, LOAD[1:], shelf=LOOKS[:1]), False)
        sold = {look: 1 for look in LOOKS[1:]}
        self.assertIs(shows(S, sold, A, 2, LOOKS, LOAD[1:], shelf=LOOKS[:1]), False)
        self.assertIs(shows(S, sold, A, 2, LOOKS[1:], LOAD[1:], shelf=LOOKS[:1]), True)

    def test_looks_that_are_not_for_sale(self):
        S, A, sold = store_s(), ask_a(), {look: 1 for look in LOOKS[1:]}
        for number in [2, 3]:
            self.assertIs(shows(S, sold, A, number, LOOKS, LOAD), False)
            self.assertIs(shows(S, sold, A, number, LOOKS, LOAD[1:]), False)
        self.assertIs(shows(S, {}, A, 0, LOOKS, ()), False)
        self.assertIs(shows(S, {}, A, 0, [], (), shelf=LOOKS), True)

    def test_true_is_no_number(self):
        ask = (("town", (1,), ("inn",)),)
        given = (store_s(), prices_one(), ask)
        thing = ((("present", ("inn", (1,))), 1),)
        self.assertIs(shows(*given, 1, [("inn", 0, 1)], thing), True)
        self.assertIs(shows(*given, True, [("inn", 0, 1)], thing), False)
        self.assertIs(shows(*given, 1, [("inn", 0, True)], thing), False)
        self.assertIs(shows(*given, 1, [("inn", 0, 1)], ((thing[0][0], True),)), False)


class ErrorsTest(Checks):
    def calls(self):
        return [
            price, cheapest, load,
            lambda store, prices, ask, shelf=(): is_load(store, prices, ask, LOAD, shelf=shelf),
            lambda store, prices, ask, shelf=(): shows(store, prices, ask, 3, LOOKS, LOAD, shelf=shelf),
            lambda store, prices, ask, shelf=(): is_load(store, prices, ask, None, shelf=shelf),
            lambda store, prices, ask, shelf=(): shows(store, prices, ask, None, None, None, shelf=shelf),
        ]

    def test_any_value_as_prices(self):
        for value in any_values():
            right = oracle.is_prices(plan_p(), value)
            for prices in [value, {("inn", 0, 0): value}, {**prices_one(), ("road", 0, 1): value}]:
                if oracle.is_prices(plan_p(), prices):
                    continue
                with self.subTest(prices=prices):
                    self.assertFalse(prices is value and right)
                    for call in self.calls():
                        self.assert_error(BadPrices, {}, call, store_s(), prices, ask_a())

    def test_prices_of_another_plan(self):
        for call in self.calls():
            self.assert_error(BadPrices, {}, call, store_s(), uniform(widest_plan(), 1), ask_a())
            self.assert_error(BadPrices, {}, call, store_s(), {("inn", 0, True): 1}, ask_a())

    def test_any_value_as_shelf(self):
        for value in any_values():
            for shelf in [value, [value], [*LOOKS, value, value], (LOOKS[0], value)]:
                is_list = type(shelf) in (list, tuple)
                wrong = [at for at, item in enumerate(shelf) if not oracle.is_look(plan_p(), item)] if is_list else [0]
                if wrong:
                    with self.subTest(shelf=shelf):
                        for call in self.calls():
                            self.assert_error(
                                BadLook, {"at": wrong[0]}, call, store_s(), prices_one(), ask_a(), shelf=shelf)

    def test_any_value_as_ask(self):
        for value in [*any_values(), *variants(ask_a())[::7]]:
            if not oracle.is_ask(plan_p(), value):
                with self.subTest(value=value):
                    for call in self.calls():
                        self.assert_error(BadAsk, {}, call, store_s(), prices_one(), value)

    def test_order_of_the_errors(self):
        plan = long_plan()
        right = {"store": Store(plan), "prices": uniform(plan, 1), "shelf": [("pa", 0, 5)], "ask": greatest_asks()[1]}
        wrongs = [
            ("prices", None, BadPrices, {}), ("prices", {("pa", 0, 6): 1}, BadPrices, {}),
            ("prices", {("pa", 0, 5): 10 ** 6 + 1}, BadPrices, {}),
            ("shelf", None, BadLook, {"at": 0}), ("shelf", {}, BadLook, {"at": 0}),
            ("shelf", [("pa", 0, 5), ("pa", 0, 6), 0], BadLook, {"at": 1}),
            ("ask", None, BadAsk, {}), ("ask", greatest_asks()[1][:-1], BadAsk, {}),
            ("ask", too_great_asks()[0], TooMany, {"most": 5000}), ("ask", too_great_asks()[1], TooMany, {"most": 5000}),
        ]
        for call in self.calls():
            self.assert_order(call, right, wrongs)
            call(**right)

    def test_not_for_sale_comes_last(self):
        plan = long_plan()
        for call in [cheapest, load]:
            self.assert_error(BadLook, {"at": 0}, call, Store(plan), {}, greatest_asks()[0], shelf=[None])
            self.assert_error(TooMany, {"most": 5000}, call, Store(plan), {}, too_great_asks()[0])
            thread = ("absent", (0, 0, 0, 0, 1, 2))
            self.assert_error(NotForSale, {"thread": thread}, call, Store(plan), {}, greatest_asks()[0])

    def test_arguments_stay(self):
        prices, shelf, bought = prices_one(), [("road", 0, 1)] * 2, list(LOOKS)
        for call in [price, cheapest, load]:
            call(store_s(), prices, ask_a(), shelf=shelf)
        is_load(store_s(), prices, ask_a(), LOAD, shelf=shelf)
        shows(store_s(), prices, ask_a(), 3, bought, LOAD, shelf=shelf)
        self.assertTrue(the_same([prices, shelf, bought], [prices_one(), [("road", 0, 1)] * 2, LOOKS]))
