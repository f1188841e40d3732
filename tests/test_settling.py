"""Looks that settle an ask, and what shows that they do or do not (points 8, 11 and 13)."""

import itertools
import random

import oracle
from asksold.asks import answer, threads
from asksold.errors import BadAsk, BadLook, TooMany
from asksold.plans import Plan, facts, looks
from asksold.settling import needless, open_row, other_store, reason, settles
from asksold.stores import Store, agree
from cases import (
    any_values, ask_a, greatest_asks, greatest_cases, long_plan, plan_p, random_ask, random_looks, random_plan,
    random_store, small_asks, store_s, too_great_asks, variants,
)
from checks import Checks

LOOKS = [("inn", 0, 0), ("inn", 0, 1), ("road", 1, 1)]


def random_cases(many, seed):
    """Stores with asks and lists of looks, of which many settle the ask."""
    rng = random.Random(seed)
    for _ in range(many):
        plan = random_plan(rng)
        yield random_store(rng, plan), random_looks(rng, plan, rng.choice([0, 0.3, 0.6, 0.9, 1])), random_ask(rng, plan)


def is_shut(ask, row, present, bought):
    """Whether (i) or (ii) of point 11 holds for a row."""
    found = oracle.facts_of_row(ask, row)
    if present.issuperset(found):
        return all(bought & set(oracle.looks_of_fact(fact)) for fact in found)
    return any(fact not in present and bought & set(oracle.looks_of_fact(fact)) for fact in found)


def open_rows(store, bought, ask):
    rows = oracle.rows(store.plan, ask)
    return [row for row in rows if not is_shut(ask, row, set(store.facts), set(bought))]


def reason_by_trial(store, bought, ask, row):
    if not is_shut(ask, row, set(store.facts), set(bought)):
        return None
    least = {}
    for fact in oracle.facts_of_row(ask, row):
        those = [look for look in bought if look in oracle.looks_of_fact(fact)]
        if those:
            least[fact] = min(those)
        if those and not store.has(fact):
            return fact, least[fact]
    return tuple(least[fact] for fact in oracle.facts_of_row(ask, row))


class ExamplesTest(Checks):
    def test_examples(self):
        S, A = store_s(), ask_a()
        looks = [("inn", 0, 0), ("inn", 0, 1), ("road", 1, 1)]
        self.assertEqual(
            [settles(S, looks, A), open_row(S, looks[:2], A), reason(S, looks, A, (1, 1))],
            [True, (0, 1), (("road", (1, 1)), ("road", 1, 1))])
        those = [("inn", 0, 0), ("inn", 0, 1), ("road", 0, 0), ("road", 1, 1)]
        self.assertEqual(needless(S, those, A), [("road", 0, 0)])

    def test_parameters_by_name(self):
        S, A = store_s(), ask_a()
        self.assertIs(settles(store=S, looks=LOOKS, ask=A), True)
        self.assertEqual(open_row(store=S, looks=[], ask=A), (0, 0))
        self.assertIsNone(other_store(store=S, looks=LOOKS, ask=A))
        self.assertEqual(reason(store=S, looks=LOOKS, ask=A, row=(0, 0)), (("inn", (0,)), ("inn", 0, 0)))
        self.assertEqual(needless(store=S, looks=LOOKS, ask=A), [])


class AllStoresTest(Checks):
    """What settling means, by all stores of small plans."""

    def check_plan(self, plan, asks, bought_lists):
        presents = oracle.all_presents(plan)
        stores = [Store(plan, present) for present in presents]
        for bought in bought_lists:
            sees = [tuple(fact for fact in present if set(oracle.looks_of_fact(fact)) & set(bought))
                    for present in presents]
            for ask in asks:
                answers = {}
                for store, seen in zip(stores, sees):
                    answers.setdefault(seen, []).append(answer(store, ask))
                for store, seen in zip(stores, sees):
                    alike = answers[seen]
                    self.check_store(store, bought, ask, all(other == alike[0] for other in alike))

    def check_store(self, store, bought, ask, is_settled):
        self.assertIs(settles(store, bought, ask), is_settled)
        other = other_store(store, bought, ask)
        if is_settled:
            self.assertIsNone(other)
        else:
            self.assertIs(type(other), Store)
            self.assertEqual(other.plan, store.plan)
            self.assertIs(agree(store, other, bought), True)
            self.assertNotEqual(answer(store, ask), answer(other, ask))

    def test_the_plan_p(self):
        every = oracle.sets_of(list(looks(plan_p())))
        self.check_plan(plan_p(), small_asks(), every[::3])
        self.check_plan(plan_p(), [ask_a()], every)

    def test_a_plan_with_two_links(self):
        plan = Plan([("a", 2), ("b", 1)], [("one", ("a",)), ("r", ("a", "b")), ("s", ("b", "a")), ("two", ("b",))])
        ask = (("a", None, ("one",)), ("r", 0), ("b", None, ("two",)), ("s", 0), ("a", None, ()))
        rng = random.Random(1)
        self.check_plan(plan, [ask, oracle.reverse(ask)], rng.sample(oracle.sets_of(list(looks(plan))), 40))

    def test_a_plan_with_two_equal_columns(self):
        plan = Plan([("a", 2)], [("r", ("a", "a")), ("s", ("a", "a"))])
        a = ("a", None, ())
        asks = [(a, ("r", 0), a, ("s", 1), a), (a, ("r", 1), ("a", (0,), ()), ("s", 1), a)]
        rng = random.Random(2)
        self.check_plan(plan, asks, rng.sample(oracle.sets_of(list(looks(plan))), 25))


class SettlingTest(Checks):
    def test_settles_open_row_and_other_store(self):
        for store, bought, ask in random_cases(600, 3):
            with self.subTest(store=store.facts, bought=bought, ask=ask):
                still_open = open_rows(store, bought, ask)
                self.assertIs(settles(store, bought, ask), not still_open)
                self.assert_the_same(open_row(store, bought, ask), still_open[0] if still_open else None)
                other = other_store(store, bought, ask)
                self.assertEqual(other is None, not still_open)
                if still_open:
                    self.assertEqual(other.plan, store.plan)
                    self.assertIs(agree(store, other, bought), True)
                    self.assertNotEqual(answer(other, ask), answer(store, ask))
                    self.assertEqual(other_store(store, bought, ask), other)

    def test_they_settle_exactly_if_they_have_a_look_of_every_thread(self):
        for store, bought, ask in random_cases(300, 4):
            bonds = oracle.threads(store.plan, ask, store.facts)
            self.assertEqual(list(bonds), list(threads(store, ask)))
            self.assertIs(settles(store, bought, ask), oracle.settled(bonds, bought))

    def test_duplicates_and_order_do_not_matter(self):
        for store, bought, ask in random_cases(200, 5):
            for those in [bought[::-1], bought + bought, tuple(bought), sorted(set(bought))]:
                self.assertIs(settles(store, those, ask), settles(store, bought, ask))
                self.assertEqual(open_row(store, those, ask), open_row(store, bought, ask))
                self.assertEqual(other_store(store, those, ask), other_store(store, bought, ask))
                self.assertEqual(reason(store, those, ask, (0, 0)), reason(store, bought, ask, (0, 0)))
                if settles(store, bought, ask):
                    self.assertEqual(needless(store, those, ask), needless(store, bought, ask))

    def test_all_looks_settle_every_ask(self):
        for store, _, ask in random_cases(200, 6):
            every = list(looks(store.plan))
            self.assertIs(settles(store, every, ask), True)
            self.assertIsNone(open_row(store, every, ask))
            self.assertIsNone(other_store(store, every, ask))

    def test_no_looks(self):
        for store, _, ask in random_cases(200, 7):
            has_threads = bool(list(threads(store, ask)))
            self.assertIs(settles(store, [], ask), not has_threads)
            self.assertIs(settles(store, (), ask), not has_threads)

    def test_an_ask_that_names_no_table(self):
        ask = (("town", None, ()),)
        for store in [store_s(), Store(plan_p()), Store.full(plan_p())]:
            self.assertIs(settles(store, [], ask), True)
            self.assertIsNone(open_row(store, [], ask))
            self.assertIsNone(other_store(store, [], ask))
            self.assert_the_same(reason(store, [], ask, (1,)), ())
            self.assertEqual(needless(store, [], ask), [])
            self.assertEqual(needless(store, LOOKS[::-1], ask), LOOKS)

    def test_more_looks_settle_it_too(self):
        for store, bought, ask in random_cases(150, 8):
            if settles(store, bought, ask):
                for look in looks(store.plan):
                    self.assertIs(settles(store, bought + [look], ask), True)

    def test_they_settle_it_with_a_smaller_lot(self):
        for store, bought, ask in random_cases(300, 9):
            if settles(store, bought, ask):
                for at, lot in enumerate(oracle.lots(store.plan, ask)):
                    for those in oracle.sets_of(lot)[1:]:
                        less = ask[:2 * at] + ((ask[2 * at][0], those, ask[2 * at][2]),) + ask[2 * at + 1:]
                        self.assertIs(settles(store, bought, less), True)

    def test_they_settle_it_with_one_answer_at_every_store_that_agrees(self):
        rng = random.Random(10)
        for store, bought, ask in random_cases(200, 10):
            free = [fact for fact in facts(store.plan) if not set(oracle.looks_of_fact(fact)) & set(bought)]
            those = [fact for fact in free if rng.random() < 0.5]
            other = Store(store.plan, [fact for fact in store.facts if fact not in free] + those)
            self.assertIs(agree(store, other, bought), True)
            if settles(store, bought, ask):
                self.assertIs(settles(other, bought, ask), True)
                self.assertEqual(answer(other, ask), answer(store, ask))
            self.assertEqual(open_row(other, bought, ask), open_row(store, bought, ask))

    def test_what_they_leave_open_is_open_at_the_other_store_too(self):
        for store, bought, ask in random_cases(200, 11):
            other = other_store(store, bought, ask)
            if other is not None:
                self.assertIs(settles(other, bought, ask), False)
                self.assertEqual(open_row(other, bought, ask), open_row(store, bought, ask))
                self.assertEqual(open_rows(other, bought, ask), open_rows(store, bought, ask))

    def test_the_greatest_asks(self):
        rng = random.Random(12)
        for store, _, ask in greatest_cases():
            every = list(looks(store.plan))
            bonds = oracle.threads(store.plan, ask, store.facts)
            for bought in [every, random_looks(rng, store.plan, 0.9), random_looks(rng, store.plan, 0.5), []]:
                still_open = open_rows(store, bought, ask)
                self.assertIs(settles(store, bought, ask), not still_open)
                self.assertIs(oracle.settled(bonds, bought), not still_open)
                self.assertEqual(open_row(store, bought, ask), still_open[0] if still_open else None)
                other = other_store(store, bought, ask)
                if still_open:
                    self.assertIs(agree(store, other, bought), True)
                    self.assertNotEqual(answer(store, ask), answer(other, ask))
                    self.assert_error(BadLook, {"at": -1}, needless, store, bought, ask)
                else:
                    self.assertIsNone(other)
                    left = needless(store, bought, ask)
                    for look in looks(store.plan):
                        less = [other for other in bought if other != look]
                        if look in bought:
                            self.assertIs(look in left, oracle.settled(bonds, less))
                for row in oracle.rows(store.plan, ask)[::500]:
                    self.assertEqual(reason(store, bought, ask, row), reason_by_trial(store, bought, ask, row))


class ReasonTest(Checks):
    def test_each_row(self):
        kinds = set()
        for store, bought, ask in random_cases(400, 13):
            for row in oracle.rows(store.plan, ask):
                found = reason(store, bought, ask, row)
                self.assert_the_same(found, reason_by_trial(store, bought, ask, row))
                kinds.add((found is None, row in answer(store, ask)))
        self.assertEqual(len(kinds), 4)

    def test_the_first_absent_fact_that_is_seen_and_the_least_look_of_the_list(self):
        store, ask = Store(plan_p()), ask_a()
        cases = [
            ([("road", 1, 1), ("road", 0, 0), ("inn", 0, 1)], (("road", (0, 1)), ("road", 0, 0))),
            ([("inn", 0, 1), ("road", 1, 1)], (("road", (0, 1)), ("road", 1, 1))),
            ([("road", 1, 0), ("inn", 0, 1)], (("inn", (1,)), ("inn", 0, 1))),
            ([("road", 1, 0), ("road", 0, 1)], None),
        ]
        for bought, found in cases:
            self.assertEqual(reason(store, bought, ask, (0, 1)), found)
        full = Store.full(plan_p())
        bought = [("road", 1, 1), ("inn", 0, 1), ("road", 0, 0)]
        self.assertEqual(reason(full, bought, ask, (0, 1)), (("road", 0, 0), ("inn", 0, 1)))
        self.assertEqual(reason(full, bought[:2], ask, (0, 1)), (("road", 1, 1), ("inn", 0, 1)))
        self.assertIsNone(reason(full, bought[::2], ask, (0, 1)))

    def test_any_value_as_row(self):
        for value in [*any_values(), *variants((0, 1)), [0, 1], (0, 1, 0), (), (0,)]:
            if not oracle.is_row(plan_p(), ask_a(), value):
                with self.subTest(value=value):
                    self.assertIsNone(reason(store_s(), LOOKS, ask_a(), value))
        self.assertIsNone(reason(store_s(), LOOKS, (("town", (0,), ()),), (1,)))


class NeedlessTest(Checks):
    def test_each_alone_may_be_left_out(self):
        sizes = set()
        for store, bought, ask in random_cases(500, 14):
            bonds = oracle.threads(store.plan, ask, store.facts)
            if not oracle.settled(bonds, bought):
                self.assert_error(BadLook, {"at": -1}, needless, store, bought, ask)
                continue
            left = [look for look in sorted(set(bought)) if oracle.settled(bonds, set(bought) - {look})]
            self.assert_the_same(needless(store, bought, ask), left)
            sizes.add(min(len(left), 3))
        self.assertEqual(sizes, {0, 1, 2, 3})

    def test_looks_at_other_tables_and_outside_of_the_lot_may_be_left_out(self):
        ask = (("town", (1,), ("inn",)),)
        every = list(looks(plan_p()))
        self.assertEqual(needless(store_s(), every, ask), [look for look in every if look != ("inn", 0, 1)])

    def test_a_new_list_each_time(self):
        those = LOOKS + [("road", 0, 0)]
        found = needless(store_s(), those, ask_a())
        found.clear()
        self.assertEqual(needless(store_s(), those, ask_a()), [("road", 0, 0)])


class ErrorsTest(Checks):
    CALLS = [settles, open_row, other_store, needless]

    def calls(self):
        return [*self.CALLS, lambda store, looks, ask: reason(store, looks, ask, (0, 0))]

    def test_any_value_as_looks(self):
        for value in any_values():
            right = type(value) in (list, tuple) and all(oracle.is_look(plan_p(), item) for item in value)
            at = 0
            if type(value) in (list, tuple):
                at = [oracle.is_look(plan_p(), item) for item in value + type(value)([0])].index(False)
            for call in self.calls():
                with self.subTest(value=value):
                    if not right:
                        self.assert_error(BadLook, {"at": at}, call, store_s(), value, ask_a())
                    elif call != needless:
                        call(store_s(), value, ask_a())

    def test_any_value_among_the_looks(self):
        for value in [*any_values(), *variants(("road", 0, 1)), *facts(plan_p())]:
            if oracle.is_look(plan_p(), value):
                continue
            for bought, at in [([value], 0), ([*LOOKS, value], 3), ((LOOKS[0], value, value, LOOKS[0]), 1)]:
                with self.subTest(bought=bought):
                    for call in self.calls():
                        self.assert_error(BadLook, {"at": at}, call, store_s(), bought, ask_a())

    def test_any_value_as_ask(self):
        for value in [*any_values(), *variants(ask_a())[::7]]:
            if not oracle.is_ask(plan_p(), value):
                with self.subTest(value=value):
                    for call in self.calls():
                        self.assert_error(BadAsk, {}, call, store_s(), LOOKS, value)

    def test_order_of_the_errors(self):
        plan = long_plan()
        right = {"store": Store(plan), "looks": list(looks(plan)), "ask": greatest_asks()[1]}
        great = {"most": 5000}
        wrongs = [
            ("looks", None, BadLook, {"at": 0}), ("looks", {}, BadLook, {"at": 0}),
            ("looks", [("pa", 0, 5), ("pa", 0, 6)], BadLook, {"at": 1}),
            ("ask", None, BadAsk, {}), ("ask", [], BadAsk, {}), ("ask", greatest_asks()[1][:-1], BadAsk, {}),
            ("ask", too_great_asks()[0], TooMany, great), ("ask", too_great_asks()[1], TooMany, great),
        ]
        for call in [*self.CALLS, lambda **named: reason(**named, row=None)]:
            self.assert_order(call, right, wrongs)
            call(**right)

    def test_looks_that_do_not_settle_come_last(self):
        store = Store(long_plan())
        self.assert_error(BadAsk, {}, needless, store, [], None)
        self.assert_error(TooMany, {"most": 5000}, needless, store, [], too_great_asks()[0])
        self.assert_error(BadLook, {"at": 0}, needless, store, [None], greatest_asks()[0])
        self.assert_error(BadLook, {"at": -1}, needless, store, [], greatest_asks()[0])

    def test_arguments_stay(self):
        for store, bought, ask in random_cases(50, 15):
            before, had = list(bought), store.facts
            for call in [settles, open_row, other_store]:
                call(store, bought, ask)
            reason(store, bought, ask, (0,))
            if settles(store, bought, ask):
                needless(store, bought, ask)
            self.assertEqual((bought, store.facts), (before, had))

    def test_equal_arguments_give_equal_results(self):
        for store, bought, ask in random_cases(100, 16):
            twin = Store(Plan(list(store.plan.columns), list(store.plan.tables)), store.facts[::-1])
            for call in [settles, open_row, other_store]:
                self.assertEqual(call(store, bought, ask), call(twin, tuple(bought), ask))

    def test_every_pair_of_looks(self):
        for bought in itertools.product(looks(plan_p()), repeat=2):
            self.assertIs(settles(store_s(), bought, ask_a()), not open_rows(store_s(), bought, ask_a()))
