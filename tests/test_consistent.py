"""Overpriced looks, and the greatest consistent prices below given ones (points 2 and 16)."""

import itertools
import random

import oracle
from asksold.consistent import consistent, overpriced, reductions
from asksold.errors import BadPrices
from asksold.plans import Plan, facts, looks
from asksold.prices import is_prices, load, price, shows, uniform
from asksold.stores import Store
from asksold.sure import ask_of_look
from cases import (
    any_values, greatest_cases, many_plans, plan_p, prices_one, random_ask, random_looks, random_plan, random_prices,
    random_store, variants, widest_plan,
)
from checks import Checks

MOST = 10 ** 6


def other_side(plan, look):
    """The looks on the other side of the look's table; none for a table with one column."""
    return [other for other in looks(plan) if other[0] == look[0] and other[1] != look[1]]


def overpriced_by_trial(plan, prices):
    """The definition of point 16."""
    found = []
    for look in looks(plan):
        others = other_side(plan, look)
        if not others or not all(other in prices for other in others):
            continue
        total = sum(prices[other] for other in others)
        if total <= MOST and (look not in prices or prices[look] > total):
            found.append((look, total))
    return found


def is_below(one, other):
    """Whether prices are nowhere above others, where a look that is not for sale has no limit."""
    return all(look in one and one[look] <= number for look, number in other.items())


def random_cases(many, seed):
    """Plans with prices of very different sizes, at times up to the bound and with a few looks not for sale."""
    rng = random.Random(seed)
    for _ in range(many):
        plan = random_plan(rng)
        sizes = rng.choice([[0, 1, 2], [1, 5, 20], [1, 400000, MOST], [500000, MOST], [333333, 333334, 1000000]])
        part = rng.choice([1, 0.9, 0.7])
        yield plan, {look: rng.choice(sizes) for look in looks(plan) if rng.random() < part}


class ExamplesTest(Checks):
    def test_examples(self):
        P = plan_p()
        prices = dict(uniform(P, 1))
        prices[("road", 0, 1)] = 5
        self.assertEqual(overpriced(P, prices), [(("road", 0, 1), 2)])
        self.assertEqual(consistent(P, prices), {**prices, ("road", 0, 1): 2})
        self.assertEqual(reductions(P, prices), [(("road", 0, 1), 2)])

    def test_parameters_by_name(self):
        P, ONE = plan_p(), prices_one()
        self.assertEqual(overpriced(plan=P, prices=ONE), [])
        self.assertEqual(consistent(plan=P, prices=ONE), ONE)
        self.assertEqual(reductions(plan=P, prices=ONE), [])


class OverpricedTest(Checks):
    def test_the_definition(self):
        sizes = set()
        for plan, prices in random_cases(600, 1):
            found = overpriced(plan, prices)
            self.assert_the_same(found, overpriced_by_trial(plan, prices))
            sizes.add(min(len(found), 3))
        self.assertEqual(sizes, {0, 1, 2, 3})

    def test_exactly_as_much_as_the_other_side_is_not_overpriced(self):
        plan = Plan([("a", 1), ("b", 2)], [("t", ("a", "b"))])
        for number, found in [(6, []), (7, []), (8, [(("t", 0, 0), 7)]), (None, [(("t", 0, 0), 7)])]:
            prices = {("t", 1, 0): 3, ("t", 1, 1): 4, ("t", 0, 0): number}
            prices = {look: number for look, number in prices.items() if number is not None}
            self.assertEqual(overpriced(plan, prices), found)

    def test_the_other_side_costs_at_most_the_bound(self):
        plan = Plan([("a", 1), ("b", 2)], [("t", ("a", "b"))])
        for one, other, found in [(MOST, 0, [(("t", 0, 0), MOST)]), (MOST, 1, []), (600000, 400000, [(("t", 0, 0), MOST)]),
                                  (600000, 400001, []), (MOST, MOST, []), (0, 0, [(("t", 0, 0), 0)])]:
            prices = {("t", 1, 0): one, ("t", 1, 1): other}
            self.assertEqual(overpriced(plan, prices), found)
            self.assertEqual(consistent(plan, prices), {**prices, **dict(found)})
            dear = {**prices, ("t", 0, 0): MOST}
            self.assertEqual(overpriced(plan, dear), found if one + other < MOST else [])

    def test_the_other_side_must_be_for_sale_completely(self):
        plan = Plan([("a", 1), ("b", 2)], [("t", ("a", "b"))])
        for prices in [{}, {("t", 1, 0): 0}, {("t", 1, 0): 0, ("t", 0, 0): 9}, {("t", 0, 0): 9}]:
            wanted = [(look, 9) for look in [("t", 1, 0), ("t", 1, 1)] if look not in prices and ("t", 0, 0) in prices]
            self.assertEqual(overpriced(plan, prices), wanted)

    def test_none_for_tables_with_one_column(self):
        plan = Plan([("a", 3)], [("t", ("a",)), ("u", ("a",))])
        for prices in [{}, uniform(plan, 0), {**uniform(plan, 0), ("t", 0, 1): MOST}, uniform(plan, 1, u=None)]:
            self.assertEqual(overpriced(plan, prices), [])
            self.assertEqual(consistent(plan, prices), prices)
            self.assertEqual(reductions(plan, prices), [])

    def test_a_table_with_two_equal_columns(self):
        prices = {**uniform(plan_p(), 2), ("road", 1, 0): 5}
        self.assertEqual(overpriced(plan_p(), prices), [(("road", 1, 0), 4)])
        del prices[("road", 1, 0)], prices[("road", 1, 1)]
        self.assertEqual(overpriced(plan_p(), prices), [(("road", 1, 0), 4), (("road", 1, 1), 4)])


class ConsistentTest(Checks):
    def test_no_look_is_overpriced_and_none_costs_more_or_leaves_the_sale(self):
        for plan, prices in random_cases(600, 2):
            before = dict(prices)
            found = consistent(plan, prices)
            self.assertIs(type(found), dict)
            self.assertIs(is_prices(plan, found), True)
            self.assertEqual(overpriced_by_trial(plan, found), [])
            self.assertTrue(is_below(found, prices))
            self.assertEqual(consistent(plan, found), found)
            self.assertEqual(prices, before)

    def test_the_greatest_by_trying_all_prices(self):
        plan = Plan([("a", 2), ("b", 1)], [("t", ("a", "b")), ("u", ("a",))])
        those = [("t", 0, 0), ("t", 0, 1), ("t", 1, 0), ("u", 0, 0), ("u", 0, 1)]
        numbers = [None, 0, 1, 2, 3, 5]
        for given in itertools.product(numbers, repeat=3):
            prices = {look: number for look, number in zip(those, (*given, 4)) if number is not None}
            ranges = [[None, *range(11)] if number is None else range(number + 1) for number in given]
            below = []
            for chosen in itertools.product(*ranges):
                other = {look: number for look, number in zip(those, (*chosen, 4)) if number is not None}
                if not overpriced_by_trial(plan, other):
                    below.append(other)
            found = consistent(plan, prices)
            self.assertIn(found, below)
            self.assertTrue(all(is_below(other, found) for other in below), (prices, found))

    def test_two_looks_on_each_side(self):
        plan = Plan([("a", 2)], [("t", ("a", "a"))])
        those = list(looks(plan))
        every = [dict(zip(those, chosen)) for chosen in itertools.product(range(4), repeat=4)]
        right = [other for other in every if not overpriced_by_trial(plan, other)]
        for prices in every[::3]:
            below = [other for other in right if is_below(other, prices)]
            found = consistent(plan, prices)
            self.assertIn(found, below)
            self.assertTrue(all(is_below(other, found) for other in below))

    def test_consistent_prices_stay_as_they_are_in_a_new_dict(self):
        prices = prices_one()
        found = consistent(plan_p(), prices)
        self.assertEqual(found, prices)
        found.clear()
        self.assertEqual(prices, prices_one())
        self.assertEqual(consistent(plan_p(), prices), prices_one())
        self.assertEqual(consistent(plan_p(), {}), {})

    def test_the_widest_plan(self):
        plan = widest_plan()
        prices = uniform(plan, 1, c=MOST, ab=None, zzzzzzzz=0)
        found = consistent(plan, prices)
        self.assertEqual(overpriced_by_trial(plan, found), [])
        self.assertTrue(is_below(found, prices))
        self.assertEqual(found, prices)
        prices = uniform(plan, 1, c=7)
        prices[("c", 0, 0)] = 43
        self.assertEqual(reductions(plan, prices), [(("c", 0, 0), 42)])


class ReductionsTest(Checks):
    def test_step_by_step(self):
        for plan, prices in random_cases(600, 3):
            steps = reductions(plan, prices)
            state = dict(prices)
            for look, number in steps:
                self.assertIn((look, number), overpriced_by_trial(plan, state))
                state[look] = number
            self.assertEqual(state, consistent(plan, prices))
            self.assertIs(type(steps), list)
            self.assertEqual(len({look for look, _ in steps}), len(steps))
            self.assertEqual(steps == [], overpriced_by_trial(plan, prices) == [])

    def test_the_result_does_not_depend_on_the_order_of_the_steps(self):
        for plan, prices in random_cases(200, 4):
            if len(overpriced(plan, prices)) > 4:
                continue
            ends, states = [], [dict(prices)]
            while states:
                state = states.pop()
                steps = overpriced_by_trial(plan, state)
                ends.extend([] if steps else [state])
                states.extend({**state, look: number} for look, number in steps)
            self.assertTrue(all(end == consistent(plan, prices) for end in ends))

    def test_the_order_of_the_items_does_not_matter(self):
        for plan, prices in random_cases(200, 5):
            for other in [dict(list(prices.items())[::-1]), dict(sorted(prices.items(), key=repr))]:
                self.assertEqual(reductions(plan, other), reductions(plan, prices))
                self.assertEqual(overpriced(plan, other), overpriced(plan, prices))
                self.assertEqual(consistent(plan, other), consistent(plan, prices))

    def test_returned_lists_are_new(self):
        prices = {**prices_one(), ("road", 0, 1): 5}
        for call in [reductions, overpriced]:
            call(plan_p(), prices).clear()
            self.assertEqual(call(plan_p(), prices), [(("road", 0, 1), 2)])


class PricesOfAsksTest(Checks):
    def test_the_price_of_an_ask_stays_after_each_reduction(self):
        rng = random.Random(6)
        changed = 0
        for plan, prices in random_cases(300, 6):
            store, ask, shelf = random_store(rng, plan), random_ask(rng, plan), random_looks(rng, plan)
            number = price(store, prices, ask, shelf=shelf)
            state = dict(prices)
            for look, less in reductions(plan, prices):
                state[look] = less
                changed += 1
                self.assertEqual(price(store, state, ask, shelf=shelf), number)
                self.assertEqual(price(store, state, ask), price(store, prices, ask))
            self.assertEqual(price(store, consistent(plan, prices), ask, shelf=shelf), number)
            self.assertEqual(price(store, state, ask, shelf=shelf), number)
        self.assertGreater(changed, 200)

    def test_the_price_of_what_a_look_sees(self):
        rng = random.Random(7)
        kinds = set()
        for plan, prices in random_cases(300, 7):
            store, greatest = random_store(rng, plan), consistent(plan, prices)
            for look in looks(plan):
                number = price(store, prices, ask_of_look(plan, look))
                others = other_side(plan, look)
                is_sold = bool(others) and all(other in prices for other in others)
                if look in greatest:
                    self.assertEqual(number, greatest[look])
                elif is_sold:
                    total = sum(prices[other] for other in others)
                    self.assertGreater(total, MOST)
                    self.assertEqual(number, total)
                else:
                    self.assertIsNone(number)
                kinds.add((look in prices, look in greatest, is_sold))
        self.assertGreaterEqual(kinds, {
            (True, True, True), (True, True, False), (False, True, True), (False, False, True), (False, False, False)})

    def test_every_store_of_the_plan_p(self):
        rng = random.Random(8)
        for present in oracle.all_presents(plan_p()):
            prices = random_prices(rng, plan_p())
            greatest = consistent(plan_p(), prices)
            for look in looks(plan_p()):
                others = other_side(plan_p(), look)
                if look in greatest or not others or not all(other in prices for other in others):
                    number = price(Store(plan_p(), present), prices, ask_of_look(plan_p(), look))
                    self.assertEqual(number, greatest.get(look))

    def test_the_greatest_asks(self):
        for store, prices, ask in greatest_cases():
            prices = {**prices, ("pd", 0, 1): MOST, ("pe", 1, 5): MOST}
            del prices[("pd", 0, 4)], prices[("pb", 1, 0)]
            greatest = consistent(store.plan, prices)
            number = price(store, prices, ask)
            self.assertEqual(price(store, greatest, ask), number)
            if number is not None:
                self.assertEqual(sum(part for _, part in load(store, greatest, ask)), number)
                self.assertIs(shows(store, greatest, ask, number + 1, [], ()), False)


class ErrorsTest(Checks):
    def test_any_value_as_prices(self):
        for plan in [plan_p(), widest_plan()]:
            for value in any_values():
                for call in [overpriced, consistent, reductions]:
                    if not oracle.is_prices(plan, value):
                        self.assert_error(BadPrices, {}, call, plan, value)
                    if type(value) is not int or not 0 <= value <= MOST:
                        look = next(looks(plan))
                        self.assert_error(BadPrices, {}, call, plan, {look: value})
                        self.assert_error(BadPrices, {}, call, plan, {**uniform(plan, 1), look: value})

    def test_any_value_as_look(self):
        for value in [*any_values(), *variants(("road", 0, 1)), *facts(plan_p())]:
            try:
                hash(value)
            except TypeError:
                continue
            if not oracle.is_look(plan_p(), value):
                for call in [overpriced, consistent, reductions]:
                    self.assert_error(BadPrices, {}, call, plan_p(), {value: 1})

    def test_prices_of_every_plan_raise_nothing(self):
        for plan in many_plans():
            for prices in [{}, uniform(plan, 0), uniform(plan, MOST), uniform(plan, 7)]:
                for call in [overpriced, consistent, reductions]:
                    call(plan, prices)
