"""Asks, their rows, facts, answers and threads (points 9, 10 and 13)."""

import itertools
import random

import oracle
from asksold.asks import answer, count_rows, facts_of, is_ask, rows_of, threads
from asksold.errors import BadAsk, TooMany
from asksold.plans import Plan, facts
from asksold.stores import Store
from cases import (
    any_values, ask_a, greatest_asks, greatest_cases, long_ask, long_plan, plan_p, random_ask, random_plan,
    random_store, small_asks, store_s, too_great_asks, variants,
)
from checks import Checks, first


def random_cases(many, seed):
    """Triples of a plan, a store and an ask."""
    rng = random.Random(seed)
    for _ in range(many):
        plan = random_plan(rng)
        yield plan, random_store(rng, plan), random_ask(rng, plan)


def ring_plan():
    """A plan with two tables with two equal columns, one with the columns exchanged, and ones for each column."""
    tables = [("road", ("town", "town")), ("rail", ("town", "town")), ("to", ("town", "hill")),
              ("back", ("hill", "town")), ("inn", ("town",)), ("bar", ("town",)), ("hut", ("hill",))]
    return Plan([("town", 3), ("hill", 2)], tables)


RING_ASKS = [
    (("town", None, ("bar", "inn")), ("to", 0), ("hill", (1,), ("hut",)), ("back", 0), ("town", (0, 2), ())),
    (("town", None, ()), ("road", 1), ("town", (1,), ("inn",)), ("rail", 0), ("town", None, ("bar",))),
    (("hill", None, ("hut",)), ("to", 1), ("town", None, ()), ("back", 1), ("hill", None, ())),
]


class ExamplesTest(Checks):
    def test_examples(self):
        P, S, A = plan_p(), store_s(), ask_a()
        self.assertEqual([count_rows(P, A), list(rows_of(P, A))[1], answer(S, A)], [4, (0, 1), [(0, 1)]])
        self.assertEqual(
            list(threads(S, A))[2:],
            [("absent", (1, 1)), ("present", ("inn", (1,))), ("present", ("road", (0, 1)))])
        self.assertEqual(facts_of(P, A, (0, 1)), (("road", (0, 1)), ("inn", (1,))))

    def test_parameters_by_name(self):
        P, S, A = plan_p(), store_s(), ask_a()
        self.assertIs(is_ask(plan=P, thing=A), True)
        self.assertEqual(count_rows(plan=P, ask=A), 4)
        self.assertEqual(list(rows_of(plan=P, ask=A)), list(rows_of(P, A)))
        self.assertEqual(facts_of(plan=P, ask=A, row=(0, 0)), facts_of(P, A, (0, 0)))
        self.assertEqual(answer(store=S, ask=A), [(0, 1)])
        self.assertEqual(list(threads(store=S, ask=A)), list(threads(S, A)))


class IsAskTest(Checks):
    def check(self, plan, thing):
        with self.subTest(thing=thing):
            right = oracle.is_ask(plan, thing)
            self.assertIs(is_ask(plan, thing), right)
            if not right:
                store = Store(plan)
                self.assert_error(BadAsk, {}, count_rows, plan, thing)
                self.assert_error(BadAsk, {}, first(rows_of), plan, thing)
                self.assert_error(BadAsk, {}, facts_of, plan, thing, (0,))
                self.assert_error(BadAsk, {}, answer, store, thing)
                self.assert_error(BadAsk, {}, first(threads), store, thing)

    def test_right_asks(self):
        for ask in small_asks():
            self.assertIs(is_ask(plan_p(), ask), True)
        for ask in RING_ASKS:
            self.assertIs(is_ask(ring_plan(), ask), True)
        for ask in greatest_asks() + too_great_asks():
            self.assertIs(is_ask(long_plan(), ask), True)
        for plan, _, ask in random_cases(300, 1):
            self.assertIs(is_ask(plan, ask), True)
            self.assertTrue(oracle.is_ask(plan, ask))

    def test_any_value(self):
        for plan in [plan_p(), ring_plan()]:
            for value in any_values():
                self.check(plan, value)
                self.check(plan, (value,))

    def test_any_value_at_each_place(self):
        for plan, ask in [(plan_p(), ask_a()), (ring_plan(), RING_ASKS[0])]:
            self.assertTrue(oracle.is_ask(plan, ask))
            for thing in variants(ask):
                self.check(plan, thing)

    def test_lots(self):
        plan = Plan([("a", 3), ("b", 1)], [("t", ("a",))])
        for lot in [None, (0,), (2,), (0, 1), (0, 2), (0, 1, 2)]:
            self.assertIs(is_ask(plan, (("a", lot, ()),)), True)
        for lot in [(), [], [0], (3,), (-1,), (1, 0), (0, 0), (0, 1, 1), (0, 3), (True,), (0, True), (False,), ((0,),),
                    0, "0", ("0",), (None,), {0: 0}, True]:
            self.check(plan, (("a", lot, ()),))
            self.assertIs(is_ask(plan, (("a", lot, ()),)), False)
        self.assertIs(is_ask(plan, (("b", (0,), ()),)), True)
        self.assertIs(is_ask(plan, (("b", (1,), ()),)), False)

    def test_ones(self):
        plan = ring_plan()
        for ones in [(), ("bar",), ("inn",), ("bar", "inn")]:
            self.assertIs(is_ask(plan, (("town", None, ones),)), True)
        for ones in [("inn", "bar"), ("inn", "inn"), ("hut",), ("bar", "hut"), ("road",), ("town",), ("pub",), ["inn"],
                     "inn", None, ("inn", None), (0,), (("inn",),), ((),), {"inn": 1}]:
            self.check(plan, (("town", None, ones),))
            self.assertIs(is_ask(plan, (("town", None, ones),)), False)

    def test_links(self):
        plan = ring_plan()
        for link, right in [
                (("to", 0), True), (("to", 1), False), (("back", 1), True), (("back", 0), False), (("road", 0), False),
                (("inn", 0), False), (("hut", 0), False), (("hill", 0), False), (("to", False), False),
                (("back", True), False), (("to", 2), False), (("to", -1), False), (("to",), False), (["to", 0], False),
                (("to", 0, 0), False), (None, False), (("to", None), False), ((0, "to"), False)]:
            ask = (("town", None, ()), link, ("hill", None, ()))
            self.check(plan, ask)
            self.assertIs(is_ask(plan, ask), right)
        for way in [0, 1]:
            self.assertIs(is_ask(plan, (("town", None, ()), ("road", way), ("town", None, ()))), True)

    def test_no_table_occurs_twice(self):
        plan = ring_plan()
        town = ("town", None, ())
        for ask in [
                (town, ("road", 0), town, ("road", 0), town),
                (town, ("road", 0), town, ("road", 1), town),
                (("town", None, ("inn",)), ("road", 0), ("town", None, ("inn",))),
                (("town", (0,), ("bar", "inn")), ("road", 0), ("town", (1,), ("inn",)))]:
            self.check(plan, ask)
            self.assertIs(is_ask(plan, ask), False)
        self.assertIs(is_ask(plan, (town, ("road", 0), town, ("rail", 1), town)), True)

    def test_numbers_of_stops(self):
        columns = [("a", 2)]
        plan = Plan(columns, [(name, ("a", "a")) for name in "abcdefgh"])
        for many in range(9):
            parts = [part for name in "abcdefgh"[:many] for part in [("a", (0,), ()), (name, 0)]]
            self.check(plan, tuple(parts))
            self.assertIs(is_ask(plan, tuple(parts)), False)
            self.check(plan, tuple(parts[:-1]))
            self.assertIs(is_ask(plan, tuple(parts[:-1])), 1 <= many <= 6)
            self.assertIs(is_ask(plan, parts[:-1]), False)

    def test_an_ask_of_another_plan(self):
        self.assertIs(is_ask(plan_p(), RING_ASKS[0]), False)
        self.assertIs(is_ask(ring_plan(), (("town", (2,), ("inn",)),)), True)
        self.assertIs(is_ask(plan_p(), (("town", (2,), ("inn",)),)), False)

    def test_too_many_rows(self):
        plan, store = long_plan(), Store(long_plan())
        for ask in too_great_asks():
            self.assertIs(is_ask(plan, ask), True)
            self.assert_error(TooMany, {"most": 5000}, first(rows_of), plan, ask)
            self.assert_error(TooMany, {"most": 5000}, facts_of, plan, ask, (0,) * 6)
            self.assert_error(TooMany, {"most": 5000}, facts_of, plan, ask, None)
            self.assert_error(TooMany, {"most": 5000}, answer, store, ask)
            self.assert_error(TooMany, {"most": 5000}, first(threads), store, ask)

    def test_generators_raise_when_the_first_item_is_requested(self):
        for wrong in [None, [], (), (("town", None, ()), ("road", 0))]:
            for generator in [rows_of(plan_p(), wrong), threads(store_s(), wrong)]:
                self.assert_error(BadAsk, {}, lambda: next(generator))
        for generator in [rows_of(long_plan(), too_great_asks()[0]), threads(Store(long_plan()), too_great_asks()[1])]:
            self.assert_error(TooMany, {"most": 5000}, lambda: next(generator))


class RowsTest(Checks):
    def test_rows_and_their_number(self):
        for plan, _, ask in random_cases(300, 2):
            with self.subTest(plan=plan.tables, ask=ask):
                self.assert_the_same(list(rows_of(plan, ask)), oracle.rows(plan, ask))
                self.assert_the_same(count_rows(plan, ask), len(oracle.rows(plan, ask)))

    def test_rows_are_ascending_and_distinct(self):
        for plan, ask in [(plan_p(), ask) for ask in small_asks()] + [(ring_plan(), ask) for ask in RING_ASKS]:
            rows = list(rows_of(plan, ask))
            self.assertEqual(rows, sorted(set(rows)))

    def test_edges(self):
        plan = Plan([("a", 1), ("b", 6)], [("t", ("a", "b"))])
        self.assertEqual(list(rows_of(plan, (("a", None, ()),))), [(0,)])
        self.assertEqual(list(rows_of(plan, (("b", (5,), ()),))), [(5,)])
        self.assertEqual(list(rows_of(plan, (("b", (1, 5), ()),))), [(1,), (5,)])
        self.assertEqual(list(rows_of(plan, (("b", (1, 5), ()), ("t", 1), ("a", None, ())))), [(1, 0), (5, 0)])
        self.assertEqual(count_rows(plan, (("b", None, ()),)), 6)

    def test_the_greatest_asks_and_greater_ones(self):
        plan = long_plan()
        self.assertEqual(count_rows(plan, greatest_asks()[0]), 5000)
        for ask in greatest_asks():
            self.assertEqual(list(rows_of(plan, ask)), oracle.rows(plan, ask))
            self.assertEqual(count_rows(plan, ask), len(oracle.rows(plan, ask)))
        self.assertEqual([count_rows(plan, ask) for ask in too_great_asks()], [5 ** 4 * 9, 6 ** 6])
        self.assertEqual(count_rows(plan, long_ask([(0, 1), None, (0, 3), None, (1, 2), (0, 1, 2)])), 8 * 36 * 3)

    def test_each_call_begins_anew_and_may_be_read_in_part(self):
        for rows in [lambda: rows_of(plan_p(), ask_a()), lambda: threads(store_s(), ask_a())]:
            whole = list(rows())
            one, other = rows(), rows()
            self.assertEqual([next(one), next(one), next(other)], [whole[0], whole[1], whole[0]])
            self.assertEqual(list(rows()), whole)
            self.assertEqual(list(one), whole[2:])
            self.assertEqual(list(other), whole[1:])
            self.assertEqual(list(one), [])


class FactsOfTest(Checks):
    def test_facts_of_each_row(self):
        for plan, _, ask in random_cases(300, 3):
            for row in oracle.rows(plan, ask):
                self.assert_the_same(facts_of(plan, ask, row), oracle.facts_of_row(ask, row))

    def test_order(self):
        found = facts_of(ring_plan(), RING_ASKS[0], (2, 1, 0))
        self.assertEqual(found, (("bar", (2,)), ("inn", (2,)), ("to", (2, 1)), ("hut", (1,)), ("back", (1, 0))))
        found = facts_of(ring_plan(), RING_ASKS[1], (0, 1, 2))
        self.assertEqual(found, (("road", (1, 0)), ("inn", (1,)), ("rail", (1, 2)), ("bar", (2,))))

    def test_an_ask_that_names_no_table(self):
        self.assert_the_same(facts_of(plan_p(), (("town", None, ()),), (1,)), ())

    def test_any_value_as_row(self):
        for plan, ask in [(plan_p(), ask_a()), (plan_p(), small_asks()[4]), (ring_plan(), RING_ASKS[0])]:
            row = oracle.rows(plan, ask)[0]
            for value in [*any_values(), *variants(row), list(row), row + (0,), row[1:], (), ask]:
                with self.subTest(value=value):
                    right = oracle.facts_of_row(ask, value) if oracle.is_row(plan, ask, value) else None
                    self.assert_the_same(facts_of(plan, ask, value), right)

    def test_values_outside_of_the_lot(self):
        ask = (("town", (1,), ("inn",)),)
        self.assertEqual(facts_of(plan_p(), ask, (1,)), (("inn", (1,)),))
        for row in [(0,), (2,), (-1,), (True,), [1], 1]:
            self.assertIsNone(facts_of(plan_p(), ask, row))

    def test_the_greatest_asks(self):
        for ask in greatest_asks():
            for row in oracle.rows(long_plan(), ask)[::777]:
                self.assertEqual(facts_of(long_plan(), ask, row), oracle.facts_of_row(ask, row))


class AnswerTest(Checks):
    def test_answers_and_threads(self):
        for plan, store, ask in random_cases(400, 4):
            with self.subTest(plan=plan.tables, facts=store.facts, ask=ask):
                before = store.facts
                self.assert_the_same(answer(store, ask), oracle.answer(plan, ask, store.facts))
                self.assert_the_same(list(threads(store, ask)), list(oracle.threads(plan, ask, store.facts)))
                self.assertEqual(store.facts, before)

    def test_every_store_of_the_plan_p(self):
        for present in oracle.all_presents(plan_p()):
            store = Store(plan_p(), present)
            for ask in small_asks():
                self.assertEqual(answer(store, ask), oracle.answer(plan_p(), ask, present))
                self.assertEqual(list(threads(store, ask)), list(oracle.threads(plan_p(), ask, present)))

    def test_an_ask_that_names_no_table(self):
        for store in [store_s(), Store(plan_p()), Store.full(plan_p())]:
            self.assertEqual(answer(store, (("town", None, ()),)), [(0,), (1,)])
            self.assertEqual(answer(store, (("town", (1,), ()),)), [(1,)])
            self.assertEqual(list(threads(store, (("town", None, ()),))), [])

    def test_empty_and_full_stores(self):
        for ask in RING_ASKS:
            rows = oracle.rows(ring_plan(), ask)
            self.assertEqual(answer(Store(ring_plan()), ask), [])
            self.assertEqual(list(threads(Store(ring_plan()), ask)), [("absent", row) for row in rows])
            self.assertEqual(answer(Store.full(ring_plan()), ask), rows)
            told = sorted({fact for row in rows for fact in oracle.facts_of_row(ask, row)})
            self.assertEqual(list(threads(Store.full(ring_plan()), ask)), [("present", fact) for fact in told])

    def test_a_new_list_each_time(self):
        store = store_s()
        found = answer(store, ask_a())
        found.append((5, 5))
        self.assertEqual(answer(store, ask_a()), [(0, 1)])
        self.assertEqual(store, store_s())

    def test_the_greatest_asks(self):
        for store, _, ask in greatest_cases():
            self.assertEqual(answer(store, ask), oracle.answer(store.plan, ask, store.facts))
            self.assertEqual(list(threads(store, ask)), list(oracle.threads(store.plan, ask, store.facts)))

    def test_an_ask_read_backwards(self):
        for plan, store, ask in random_cases(300, 5):
            back = oracle.reverse(ask)
            self.assertIs(is_ask(plan, back), True)
            rows = list(rows_of(plan, ask))
            self.assertEqual(sorted(row[::-1] for row in rows), list(rows_of(plan, back)))
            for row in rows:
                self.assertEqual(sorted(facts_of(plan, ask, row)), sorted(facts_of(plan, back, row[::-1])))
            self.assertEqual(sorted(row[::-1] for row in answer(store, ask)), answer(store, back))
            turned = [(word, part[::-1] if word == "absent" else part) for word, part in threads(store, ask)]
            self.assertEqual(sorted(turned), list(threads(store, back)))

    def test_a_lot_parted_in_two(self):
        for plan, store, ask in random_cases(300, 6):
            for at, lot in enumerate(oracle.lots(plan, ask)):
                for many in range(1, len(lot)):
                    parts = [ask[:2 * at] + ((ask[2 * at][0], those, ask[2 * at][2]),) + ask[2 * at + 1:]
                             for those in (lot[:many], lot[many:])]
                    for whole in [lambda ask: list(rows_of(plan, ask)), lambda ask: answer(store, ask),
                                  lambda ask: [thread for thread in threads(store, ask) if thread[0] == "absent"]]:
                        self.assertEqual(sorted(whole(parts[0]) + whole(parts[1])), whole(ask))
                    self.assertEqual(sum(count_rows(plan, part) for part in parts), count_rows(plan, ask))

    def test_one_fact_more(self):
        for plan, store, ask in random_cases(100, 7):
            had = answer(store, ask)
            for fact in facts(plan):
                if store.has(fact):
                    continue
                new = [row for row in rows_of(plan, ask)
                       if [other for other in facts_of(plan, ask, row) if not store.has(other)] == [fact]]
                self.assertEqual(answer(store.with_facts(fact), ask), sorted(had + new))

    def test_equal_arguments_give_equal_results(self):
        for plan, store, ask in random_cases(50, 8):
            twin = Store(Plan(list(plan.columns), list(plan.tables)), store.facts[::-1])
            self.assertEqual(answer(store, ask), answer(twin, ask))
            self.assertEqual(list(threads(store, ask)), list(threads(twin, ask)))

    def test_all_pairs_of_stops_with_lots(self):
        plan = plan_p()
        lots = [None, (0,), (1,), (0, 1)]
        for one, other, way in itertools.product(lots, lots, (0, 1)):
            ask = (("town", one, ("inn",)), ("road", way), ("town", other, ()))
            for present in oracle.all_presents(plan)[::5]:
                self.assertEqual(answer(Store(plan, present), ask), oracle.answer(plan, ask, present))
