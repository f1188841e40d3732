"""Stores and their agreement (points 3 and 8)."""

import copy
import itertools
import unittest

from asksold.errors import BadFact, BadLook, BadStore
from asksold.plans import Plan, facts, looks, sees
from asksold.stores import Store, agree
from cases import (
    any_values, many_plans, narrowest_plan, plan_p, store_s, the_same, variants, widest_plan,
)


def some_stores(plan):
    """Stores of a plan: the empty one, the full one, and some between them."""
    every = list(facts(plan))
    parts = [every[at::step] for step in (2, 3, 5) for at in range(2)]
    return [Store(plan, part) for part in [[], every, every[:1], every[-1:], *parts]]


def all_stores(plan):
    every = list(facts(plan))
    return [Store(plan, part) for many in range(len(every) + 1) for part in itertools.combinations(every, many)]


def is_among(value, things):
    return any(the_same(value, thing) for thing in things)


class StoreArgumentsTest(unittest.TestCase):
    def assert_bad(self, plan, present):
        with self.assertRaises(BadStore) as caught:
            Store(plan, present)
        self.assertIs(type(caught.exception), BadStore)

    def test_any_order_with_duplicates(self):
        for plan in many_plans():
            every = list(facts(plan))
            for present in [every, every[::-1], every[1:] + every[:1], every + every, every[::-1] + every[::2]]:
                for given in [list(present), tuple(present)]:
                    store = Store(plan, given)
                    self.assertTrue(the_same(store.facts, tuple(every)))
                    self.assertEqual(len(store), len(every))

    def test_duplicates_count_once(self):
        store = Store(plan_p(), [("road", (1, 0)), ("inn", (0,)), ("road", (1, 0)), ("inn", (0,)), ("inn", (0,))])
        self.assertEqual(store.facts, (("inn", (0,)), ("road", (1, 0))))
        self.assertEqual(len(store), 2)
        self.assertEqual(store.rows("inn"), ((0,),))
        self.assertEqual(store.seen(("road", 0, 1)), ((1, 0),))

    def test_without_facts(self):
        for store in [Store(plan_p()), Store(plan_p(), ()), Store(plan_p(), []), Store(present=[], plan=plan_p())]:
            self.assertEqual((store.facts, len(store)), ((), 0))

    def test_any_value_as_present(self):
        plan = plan_p()
        right = list(facts(plan))
        for value in any_values():
            with self.subTest(value=value):
                are_facts = type(value) in (list, tuple) and all(is_among(item, right) for item in value)
                if are_facts:
                    self.assertEqual(Store(plan, value).facts, tuple(sorted(value)))
                else:
                    self.assert_bad(plan, value)

    def test_any_value_among_the_facts(self):
        plan = plan_p()
        right = list(facts(plan))
        for value in [*any_values(), *variants(("inn", (0,))), *variants(("road", (0, 1)))]:
            for present in [[value], (value,), [*right, value], [value, *right], [right[0], value, right[0]]]:
                with self.subTest(present=present):
                    if is_among(value, right):
                        self.assertTrue(Store(plan, present).has(value))
                    else:
                        self.assert_bad(plan, present)

    def test_facts_of_another_plan(self):
        self.assert_bad(plan_p(), list(facts(widest_plan())))
        self.assert_bad(plan_p(), [("inn", (2,))])
        self.assert_bad(plan_p(), [("hill", (0,))])

    def test_a_dict_of_facts_is_no_list(self):
        self.assert_bad(plan_p(), {("inn", (0,)): True})
        self.assert_bad(plan_p(), {})

    def test_arguments_are_not_changed_and_later_changes_have_no_effect(self):
        present = [("road", (1, 1)), ("inn", (0,)), ("road", (1, 1))]
        before = copy.deepcopy(present)
        store = Store(plan_p(), present)
        self.assertTrue(the_same(present, before))
        present.append(("inn", (1,)))
        present[0] = ("road", (0, 0))
        self.assertEqual(store.facts, (("inn", (0,)), ("road", (1, 1))))
        self.assertEqual(len(store), 2)
        self.assertIs(store.has(("inn", (1,))), False)
        self.assertIs(store.has(("road", (1, 1))), True)
        self.assertEqual(store.rows("road"), ((1, 1),))


class StoreTest(unittest.TestCase):
    def test_example(self):
        s = store_s()
        found = [s.seen(("road", 1, 1)), s.seen(("road", 1, 0)), len(s.with_facts(("inn", (0,)), ("inn", (1,))))]
        self.assertEqual(found, [((0, 1),), (), 3])

    def test_plan_and_facts_are_properties(self):
        for name in ["plan", "facts"]:
            self.assertIsInstance(vars(Store)[name], property)
            with self.assertRaises(AttributeError):
                setattr(store_s(), name, ())

    def test_plan(self):
        for plan in many_plans():
            self.assertEqual(Store(plan).plan, plan)
            self.assertEqual(Store.full(plan).plan, plan)
            self.assertEqual(Store.full(plan).without_facts(*facts(plan)).plan, plan)

    def test_full(self):
        for plan in many_plans():
            self.assertTrue(the_same(Store.full(plan).facts, tuple(facts(plan))))
        self.assertEqual(len(Store.full(widest_plan())), 74)
        self.assertEqual(len(Store.full(narrowest_plan())), 1)
        self.assertEqual(Store.full(plan=plan_p()), Store(plan_p(), list(facts(plan_p()))))

    def test_facts_len_has_rows_and_seen_fit_together(self):
        for plan in many_plans():
            for store in some_stores(plan):
                self.assertEqual(list(store.facts), sorted(set(store.facts)))
                self.assertEqual(len(store), len(store.facts))
                for fact in facts(plan):
                    self.assertIs(store.has(fact), fact in store.facts)
                for table, _ in plan.tables:
                    rows = tuple(row for name, row in store.facts if name == table)
                    self.assertTrue(the_same(store.rows(table), rows))
                for look in looks(plan):
                    rows = tuple(fact[1] for fact in store.facts if sees(look, fact))
                    self.assertTrue(the_same(store.seen(look), rows))

    def test_has_of_any_other_value(self):
        right = list(facts(plan_p()))
        for value in [*any_values(), *variants(("road", (0, 1)))]:
            if not is_among(value, right):
                with self.subTest(value=value), self.assertRaises(BadFact):
                    store_s().has(value)

    def test_rows_of_any_other_value(self):
        for value in any_values():
            if value not in ["inn", "road"]:
                with self.subTest(value=value), self.assertRaises(BadFact):
                    store_s().rows(value)
        with self.assertRaises(BadFact):
            store_s().rows("town")

    def test_rows_of_a_table_without_present_facts(self):
        self.assertEqual(Store(plan_p()).rows("inn"), ())
        self.assertEqual(Store(plan_p(), [("inn", (0,))]).rows("road"), ())

    def test_seen_of_any_other_value(self):
        right = list(looks(plan_p()))
        for value in [*any_values(), *variants(("road", 0, 1)), *facts(plan_p())]:
            if not is_among(value, right):
                with self.subTest(value=value), self.assertRaises(BadLook) as caught:
                    store_s().seen(value)
                self.assertEqual(vars(caught.exception), {"at": 0})

    def test_parameters_by_name(self):
        s = store_s()
        found = [s.has(fact=("inn", (1,))), s.rows(table="inn"), s.seen(look=("inn", 0, 1))]
        self.assertEqual(found, [True, ((1,),), ((1,),)])
        self.assertIs(agree(one=s, other=s, looks=[("inn", 0, 1)]), True)

    def test_equal(self):
        for plan in many_plans():
            stores = some_stores(plan)
            for one, other in itertools.product(stores, stores):
                self.assertIs(one == other, one.facts == other.facts)
                self.assertIs(one != other, one.facts != other.facts)
            for store in stores:
                self.assertTrue(store == Store(Plan(plan.columns, plan.tables), store.facts[::-1]))

    def test_stores_of_different_plans_are_not_equal(self):
        other = Plan([("town", 2)], [("road", ("town", "town")), ("inn", ("town",))])
        self.assertIs(Store(plan_p()) == Store(other), False)
        self.assertIs(store_s() == Store(other, store_s().facts), False)
        self.assertIs(store_s() != Store(other, store_s().facts), True)

    def test_equals_no_other_value(self):
        for store in [store_s(), Store(plan_p()), Store(plan_p(), [("inn", (0,))])]:
            for value in [*any_values(), store.facts, list(store.facts), store.plan, (store.plan, store.facts)]:
                with self.subTest(value=value):
                    self.assertIs(store == value, False)
                    self.assertIs(value == store, False)


class NewStoresTest(unittest.TestCase):
    def test_with_and_without(self):
        for plan in many_plans():
            every = list(facts(plan))
            for store in some_stores(plan):
                for those in [[], every[:1], every[-2:], every[::2], every, every[:1] * 3]:
                    more, less = store.with_facts(*those), store.without_facts(*those)
                    self.assertEqual(more.facts, tuple(sorted(set(store.facts) | set(those))))
                    self.assertEqual(less.facts, tuple(sorted(set(store.facts) - set(those))))
                    self.assertEqual((type(more), type(less)), (Store, Store))
                    self.assertEqual(more, Store(plan, more.facts))
                    self.assertEqual(less, Store(plan, less.facts))

    def test_the_store_and_earlier_ones_stay(self):
        plan = plan_p()
        every = list(facts(plan))
        stores, states = [Store(plan)], [()]
        for at in range(40):
            fact = every[at * 5 % 6]
            old = stores[-1]
            new = old.without_facts(fact) if old.has(fact) else old.with_facts(fact, every[at % 6])
            stores.append(new)
            states.append(new.facts)
            self.assertIs(new.has(fact), not old.has(fact))
        for store, state in zip(stores, states):
            self.assertEqual(store, Store(plan, state))
            self.assertEqual([store.has(fact) for fact in every], [fact in state for fact in every])
            self.assertEqual(store.rows("road"), Store(plan, state).rows("road"))

    def test_a_new_store_each_time(self):
        s = store_s()
        for new in [s.with_facts(), s.without_facts(), s.with_facts(("inn", (1,))), s.without_facts(("inn", (0,)))]:
            self.assertEqual(new, s)
            self.assertIsNot(new, s)

    def test_a_value_that_is_no_fact(self):
        s = store_s()
        right = list(facts(plan_p()))
        for value in [*any_values(), *variants(("road", (0, 1)))]:
            if is_among(value, right):
                continue
            for values in [(value,), (("inn", (0,)), value), (value, ("inn", (1,))), (*right, value)]:
                with self.subTest(values=values):
                    for method in [s.with_facts, s.without_facts]:
                        with self.assertRaises(BadFact) as caught:
                            method(*values)
                        self.assertIs(type(caught.exception), BadFact)
        self.assertEqual(s, store_s())

    def test_a_list_of_facts_is_no_fact(self):
        for method in [store_s().with_facts, store_s().without_facts]:
            for value in [[], [("inn", (0,))], (("inn", (0,)),)]:
                with self.assertRaises(BadFact):
                    method(value)


class AgreeTest(unittest.TestCase):
    def test_example(self):
        s = store_s()
        other = s.with_facts(("inn", (0,)))
        self.assertEqual([agree(s, other, [("inn", 0, 1)]), agree(s, other, [("inn", 0, 0)])], [True, False])

    def test_agree_on_a_look(self):
        for plan in many_plans():
            stores = some_stores(plan)
            for one, other in itertools.product(stores, stores):
                differ = set(one.facts) ^ set(other.facts)
                for look in list(looks(plan))[::3]:
                    self.assertIs(agree(one, other, [look]), not any(sees(look, fact) for fact in differ))

    def test_symmetric_and_transitive(self):
        plan = plan_p()
        stores = all_stores(plan)
        self.assertEqual(len(stores), 64)
        every = list(looks(plan))
        for those in [[], every[:1], every[3:4], every[1:3], every[2:4], every[::2], every]:
            table = [[agree(one, other, those) for other in stores] for one in stores]
            for at, row in enumerate(table):
                self.assertIs(row[at], True)
                for by, whether in enumerate(row):
                    self.assertIs(table[by][at], whether)
                    if whether:
                        self.assertEqual(table[by], row)

    def test_a_list_is_agreed_on_exactly_if_each_look_is(self):
        plan = plan_p()
        stores = all_stores(plan)[::3]
        every = list(looks(plan))
        lists = [list(part) for many in range(4) for part in itertools.combinations(every, many)]
        for one, other in itertools.product(stores, stores):
            each = {look: agree(one, other, [look]) for look in every}
            for those in lists:
                self.assertIs(agree(one, other, those), all(each[look] for look in those))

    def test_all_looks_are_agreed_on_exactly_if_the_stores_are_equal(self):
        for plan in many_plans():
            stores = some_stores(plan)
            for one, other in itertools.product(stores, stores):
                self.assertIs(agree(one, other, list(looks(plan))), one == other)
                self.assertIs(agree(one, other, tuple(looks(plan))), one == other)

    def test_order_and_duplicates_of_looks_do_not_matter(self):
        s = store_s()
        other = s.with_facts(("road", (1, 1)))
        self.assertIs(agree(s, other, [("inn", 0, 0), ("road", 1, 1), ("inn", 0, 0)]), False)
        self.assertIs(agree(s, other, [("road", 1, 0), ("inn", 0, 0), ("road", 1, 0)]), True)
        self.assertIs(agree(s, other, []), True)

    def test_bad_looks(self):
        s = store_s()
        other = s.with_facts(("inn", (0,)))
        right = list(looks(plan_p()))
        for value in [*any_values(), *variants(("road", 0, 1)), *facts(plan_p())]:
            if is_among(value, right):
                continue
            for those in [[value], [right[0], value], [*right, value, value], (*right[::-1], value, right[0])]:
                at = [is_among(look, right) for look in those].index(False)
                for one, two in [(s, s), (s, other), (other, s)]:
                    with self.subTest(those=those), self.assertRaises(BadLook) as caught:
                        agree(one, two, those)
                    self.assertEqual(vars(caught.exception), {"at": at})

    def test_looks_that_are_no_list(self):
        for value in any_values():
            if type(value) in (list, tuple):
                continue
            with self.subTest(value=value), self.assertRaises(BadLook) as caught:
                agree(store_s(), store_s(), value)
            self.assertEqual(caught.exception.at, 0)
        with self.assertRaises(BadLook) as caught:
            agree(store_s(), store_s(), {("inn", 0, 0): 1})
        self.assertEqual(caught.exception.at, 0)

    def test_different_plans_come_first(self):
        other = Plan([("town", 2)], [("road", ("town", "town")), ("inn", ("town",))])
        for those in [[], [("inn", 0, 0)], [0], None, [("inn", 0, 0), ("hill", 0, 0)]]:
            for one, two in [(store_s(), Store(other)), (Store(widest_plan()), store_s())]:
                with self.subTest(those=those), self.assertRaises(BadStore):
                    agree(one, two, those)

    def test_equal_plans_need_not_be_one_object(self):
        self.assertIs(agree(store_s(), store_s(), list(looks(plan_p()))), True)

    def test_arguments_are_not_changed(self):
        those = [("road", 1, 1), ("inn", 0, 0), ("road", 1, 1)]
        before = copy.deepcopy(those)
        one, other = store_s(), Store(plan_p())
        agree(one, other, those)
        self.assertTrue(the_same(those, before))
        self.assertEqual((one, other), (store_s(), Store(plan_p())))


if __name__ == "__main__":
    unittest.main()
