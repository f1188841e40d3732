"""Names, plans, facts and looks (points 3, 6 and 7)."""

import copy
import itertools
import re
import unittest

from asksold.errors import BadFact, BadLook, BadPlan
from asksold.plans import (
    Plan, check_looks, facts, is_fact, is_look, is_name, looks, seers, sees,
)
from cases import any_values, many_plans, narrowest_plan, plan_p, the_same, variants, widest_plan

COLUMNS = [("town", 2), ("hill", 6)]
TABLES = [("inn", ("town",)), ("road", ("town", "hill")), ("town", ("hill", "hill"))]


def looks_like_name(thing):
    return type(thing) is str and re.fullmatch("[a-z]{1,8}", thing) is not None


def looks_like_columns(thing):
    if type(thing) not in (list, tuple) or len(thing) not in range(1, 7):
        return False
    pairs = all(type(item) is tuple and len(item) == 2 and looks_like_name(item[0])
                and type(item[1]) is int and item[1] in range(1, 7) for item in thing)
    return pairs and sorted(set(dict(thing))) == sorted(name for name, _ in thing)


def looks_like_tables(thing, columns):
    if type(thing) not in (list, tuple) or len(thing) not in range(1, 9):
        return False
    for item in thing:
        if type(item) is not tuple or len(item) != 2 or not looks_like_name(item[0]):
            return False
        if type(item[1]) is not tuple or len(item[1]) not in (1, 2):
            return False
        if any(type(name) is not str or name not in dict(columns) for name in item[1]):
            return False
    return sorted(set(dict(thing))) == sorted(name for name, _ in thing)


def facts_by_hand(plan):
    sizes = dict(plan.columns)
    return sorted((table, row) for table, names in plan.tables
                  for row in itertools.product(*[range(sizes[name]) for name in names]))


def looks_by_hand(plan):
    sizes = dict(plan.columns)
    return sorted((table, side, value) for table, names in plan.tables
                  for side, name in enumerate(names) for value in range(sizes[name]))


class NamesTest(unittest.TestCase):
    def test_names(self):
        for name in ["a", "z", "town", "abcdefgh", "zzzzzzzz", "none", "true"]:
            with self.subTest(name=name):
                self.assertIs(is_name(name), True)

    def test_other_strings(self):
        others = ["", "abcdefghi", "abcdefgh\n", "a\n", "Town", "towN", "a b", " a", "a ", "a1", "1", "a_b", "a-b",
                  "`", "{", "@", "[", "A", "Z", "a,b", "a" * 100]
        for other in others:
            with self.subTest(other=other):
                self.assertIs(is_name(other), False)

    def test_each_sign(self):
        for sign in ["\n"] + [chr(code) for code in range(32, 127)]:
            with self.subTest(sign=sign):
                self.assertIs(is_name(sign), sign in "abcdefghijklmnopqrstuvwxyz")
                self.assertIs(is_name("to" + sign + "n"), sign in "abcdefghijklmnopqrstuvwxyz")

    def test_any_value(self):
        for value in any_values():
            with self.subTest(value=value):
                self.assertIs(is_name(value), looks_like_name(value))


class PlanArgumentsTest(unittest.TestCase):
    def assert_bad(self, columns, tables):
        with self.assertRaises(BadPlan) as caught:
            Plan(columns, tables)
        self.assertIs(type(caught.exception), BadPlan)

    def check(self, columns, tables):
        before = copy.deepcopy((columns, tables))
        if looks_like_columns(columns) and looks_like_tables(tables, columns):
            plan = Plan(columns, tables)
            self.assertTrue(the_same((plan.columns, plan.tables), (tuple(columns), tuple(tables))))
        else:
            self.assert_bad(columns, tables)
        self.assertTrue(the_same((columns, tables), before))

    def test_right_plans(self):
        self.assertEqual(plan_p().columns, (("town", 2),))
        self.assertEqual(len(widest_plan().columns), 6)
        self.assertEqual(len(widest_plan().tables), 8)
        self.assertEqual(narrowest_plan().tables, (("a", ("a",)),))

    def test_arguments_by_name(self):
        self.assertEqual(Plan(tables=TABLES, columns=COLUMNS), Plan(COLUMNS, TABLES))

    def test_any_value_for_the_columns(self):
        for columns in variants(COLUMNS) + variants(tuple(COLUMNS)):
            with self.subTest(columns=columns):
                self.check(columns, TABLES)

    def test_any_value_for_the_tables(self):
        for tables in variants(TABLES) + variants(tuple(TABLES)):
            with self.subTest(tables=tables):
                self.check(COLUMNS, tables)

    def test_any_value_for_both(self):
        for value in any_values():
            with self.subTest(value=value):
                self.check(value, value)
                self.check([value], TABLES)
                self.check([*COLUMNS, value], TABLES)
                self.check(COLUMNS, [value])
                self.check(COLUMNS, [*TABLES, value])

    def test_number_of_columns(self):
        for many in range(9):
            columns = [("abcdefghi"[at], at % 6 + 1) for at in range(many)]
            with self.subTest(many=many):
                self.check(columns, [("t", ("a",))])
                self.assertIs(looks_like_columns(columns), 1 <= many <= 6)
        self.assertEqual(len(Plan([(name, 1) for name in "abcdef"], [("t", ("f",))]).columns), 6)
        self.assert_bad([(name, 1) for name in "abcdefg"], [("t", ("a",))])
        self.assert_bad([], [("t", ("a",))])
        self.assert_bad([], [])

    def test_number_of_tables(self):
        self.assertEqual(len(Plan([("a", 1)], [(name, ("a",)) for name in "abcdefgh"]).tables), 8)
        self.assert_bad([("a", 1)], [(name, ("a",)) for name in "abcdefghi"])
        self.assert_bad([("a", 1)], [])
        self.assert_bad([("a", 1)], ())

    def test_number_of_values(self):
        for many in range(1, 7):
            self.assertEqual(Plan([("a", many)], [("t", ("a",))]).size_of("a"), many)
        for many in [0, 7, -1, 10 ** 39, True, False, None, "1", (1,), [1]]:
            self.assert_bad([("a", many)], [("t", ("a",))])

    def test_number_of_columns_of_a_table(self):
        for names in [("a",), ("a", "a"), ("a", "b"), ("b", "a"), ("b", "b")]:
            self.assertEqual(Plan([("a", 1), ("b", 2)], [("t", names)]).sides("t"), len(names))
        for names in [(), ("a", "a", "a"), "a", "ab", ["a"], ["a", "b"], {"a": 1}, None, ("c",), ("a", "c"), ("",)]:
            self.assert_bad([("a", 1), ("b", 2)], [("t", names)])

    def test_names_are_distinct_within_columns_and_within_tables(self):
        self.assert_bad([("a", 1), ("b", 1), ("a", 1)], [("t", ("a",))])
        self.assert_bad([("a", 1), ("a", 2)], [("t", ("a",))])
        self.assert_bad([("a", 1)], [("t", ("a",)), ("u", ("a",)), ("t", ("a",))])
        self.assert_bad([("a", 1)], [("t", ("a",)), ("t", ("a", "a"))])
        self.assertEqual(Plan([("a", 1)], [("a", ("a", "a"))]).sides("a"), 2)

    def test_names_have_1_to_8_letters(self):
        self.assertEqual(Plan([("abcdefgh", 1)], [("zyxwvuts", ("abcdefgh",))]).sides("zyxwvuts"), 1)
        for name in ["", "abcdefghi", "A", "a1", "a b", None, 1, True, ("a",), ["a"], {}]:
            self.assert_bad([(name, 1)], [("t", (name,))])
            self.assert_bad([("a", 1), (name, 1)], [("t", ("a",))])
            self.assert_bad([("a", 1)], [(name, ("a",))])
            self.assert_bad([("a", 1)], [("t", (name,))])


class PlanTest(unittest.TestCase):
    def test_the_most(self):
        self.assertEqual((Plan.MOST_COLUMNS, Plan.MOST_TABLES), (6, 8))
        self.assertEqual((plan_p().MOST_COLUMNS, plan_p().MOST_TABLES), (6, 8))

    def test_columns_and_tables_are_tuples_in_the_given_order(self):
        for columns, tables in [(COLUMNS, TABLES), (COLUMNS[::-1], TABLES[::-1]), (tuple(COLUMNS), tuple(TABLES))]:
            plan = Plan(columns, tables)
            self.assertTrue(the_same(plan.columns, tuple(columns)))
            self.assertTrue(the_same(plan.tables, tuple(tables)))

    def test_columns_and_tables_are_properties(self):
        for name in ["columns", "tables"]:
            self.assertIsInstance(vars(Plan)[name], property)
            with self.assertRaises(AttributeError):
                setattr(plan_p(), name, ())

    def test_later_changes_have_no_effect(self):
        columns, tables = list(COLUMNS), list(TABLES)
        plan = Plan(columns, tables)
        columns[0] = ("town", 5)
        columns.append(("lake", 1))
        tables.clear()
        self.assertEqual(plan.columns, tuple(COLUMNS))
        self.assertEqual(plan.tables, tuple(TABLES))
        self.assertEqual(plan.size_of("town"), 2)
        self.assertIsNone(plan.size_of("lake"))
        self.assertEqual(plan.sides("road"), 2)
        self.assertEqual(plan, Plan(COLUMNS, TABLES))
        self.assertEqual(len(list(facts(plan))), 2 + 12 + 36)

    def test_example(self):
        p = plan_p()
        self.assertEqual([p.size_of("town"), p.sides("road"), p.sides("hill")], [2, 2, None])

    def test_size_of_and_sides_of_every_plan(self):
        for plan in many_plans():
            sizes, shapes = dict(plan.columns), dict(plan.tables)
            for value in [*any_values(), *sizes, *shapes]:
                with self.subTest(value=value):
                    is_text = isinstance(value, str)
                    size = sizes[value] if is_text and value in sizes else None
                    sides = len(shapes[value]) if is_text and value in shapes else None
                    self.assertTrue(the_same(plan.size_of(value), size))
                    self.assertTrue(the_same(plan.sides(value), sides))

    def test_equal(self):
        self.assertTrue(Plan(COLUMNS, TABLES) == Plan(tuple(COLUMNS), tuple(TABLES)))
        self.assertFalse(Plan(COLUMNS, TABLES) != Plan(tuple(COLUMNS), tuple(TABLES)))
        self.assertIs(Plan(COLUMNS, TABLES) == Plan(COLUMNS, TABLES), True)

    def test_not_equal(self):
        plan = Plan(COLUMNS, TABLES)
        others = [
            Plan(COLUMNS[::-1], TABLES), Plan(COLUMNS, TABLES[::-1]), Plan(COLUMNS, TABLES[:2]),
            Plan([("town", 3), ("hill", 6)], TABLES), Plan([*COLUMNS, ("lake", 1)], TABLES),
            Plan(COLUMNS, [("inn", ("town", "town")), *TABLES[1:]]), Plan(COLUMNS, [*TABLES[:2], ("way", TABLES[2][1])]),
        ]
        for other in others:
            self.assertIs(plan == other, False)
            self.assertIs(other == plan, False)
            self.assertIs(plan != other, True)

    def test_equals_no_other_value(self):
        plan = plan_p()
        for value in [*any_values(), (plan.columns, plan.tables), [plan.columns, plan.tables], {"columns": plan.columns}]:
            with self.subTest(value=value):
                self.assertIs(plan == value, False)
                self.assertIs(value == plan, False)


class FactsAndLooksTest(unittest.TestCase):
    def test_examples(self):
        p = plan_p()
        found = [is_fact(p, ("road", (0, 2))), is_look(p, ("inn", 1, 0)), is_look(p, ("road", 1, 0))]
        self.assertEqual(found, [False, False, True])
        self.assertEqual(
            [len(list(facts(p))), list(looks(p))[:3]], [6, [("inn", 0, 0), ("inn", 0, 1), ("road", 0, 0)]])
        self.assertEqual(seers(p, ("road", (0, 1))), (("road", 0, 0), ("road", 1, 1)))

    def test_facts_and_looks_are_all_in_ascending_order(self):
        for plan in many_plans():
            with self.subTest(tables=plan.tables):
                self.assertTrue(the_same(list(facts(plan)), facts_by_hand(plan)))
                self.assertTrue(the_same(list(looks(plan)), looks_by_hand(plan)))

    def test_numbers_of_facts_and_looks(self):
        self.assertEqual(len(list(facts(widest_plan()))), 36 + 2 + 6 + 1 + 6 + 5 + 12 + 6)
        self.assertEqual(len(list(looks(widest_plan()))), 12 + 2 + 5 + 1 + 7 + 5 + 7 + 6)
        self.assertEqual(list(facts(narrowest_plan())), [("a", (0,))])
        self.assertEqual(list(looks(narrowest_plan())), [("a", 0, 0)])

    def test_each_call_begins_anew_also_while_another_is_read(self):
        plan = plan_p()
        for function in [facts, looks]:
            whole = list(function(plan))
            one = function(plan)
            begun = [next(one), next(one)]
            other = function(plan)
            self.assertEqual(next(other), whole[0])
            self.assertEqual(list(function(plan)), whole)
            self.assertEqual(begun + list(one), whole)
            self.assertEqual([whole[0], *other], whole)
            self.assertEqual([(a, b) for a in function(plan) for b in function(plan)],
                             [(a, b) for a in whole for b in whole])
            self.assertEqual(list(one), [])

    def test_is_fact_for_any_value(self):
        for plan in many_plans():
            right = facts_by_hand(plan)
            nearly = [value for fact in [right[0], right[-1]] for value in variants(fact)]
            for value in [*right, *nearly, *any_values(), *looks_by_hand(plan), right, tuple(right)]:
                with self.subTest(value=value):
                    expected = any(the_same(value, fact) for fact in right)
                    self.assertIs(is_fact(plan, value), expected)

    def test_is_look_for_any_value(self):
        for plan in many_plans():
            right = looks_by_hand(plan)
            nearly = [value for look in [right[0], right[-1]] for value in variants(look)]
            for value in [*right, *nearly, *any_values(), *facts_by_hand(plan), right, tuple(right)]:
                with self.subTest(value=value):
                    expected = any(the_same(value, look) for look in right)
                    self.assertIs(is_look(plan, value), expected)

    def test_a_table_with_one_column_has_one_side(self):
        p = plan_p()
        self.assertIs(is_look(p, ("inn", 0, 1)), True)
        for side in [1, 2, -1, False, None, "0", (0,)]:
            self.assertIs(is_look(p, ("inn", side, 1)), False)

    def test_each_side_has_the_values_of_its_own_column(self):
        plan = Plan([("a", 1), ("b", 6)], [("t", ("a", "b"))])
        self.assertIs(is_look(plan, ("t", 1, 5)), True)
        self.assertIs(is_look(plan, ("t", 0, 1)), False)
        self.assertIs(is_fact(plan, ("t", (0, 5))), True)
        self.assertIs(is_fact(plan, ("t", (5, 0))), False)
        self.assertIs(is_fact(plan, ("t", (0, 6))), False)

    def test_sees(self):
        for plan in many_plans():
            for look in looks(plan):
                for fact in facts(plan):
                    expected = fact[0] == look[0] and list(fact[1])[look[1]] == look[2]
                    self.assertIs(sees(look, fact), expected)

    def test_sees_on_both_sides(self):
        fact = ("road", (0, 1))
        self.assertIs(sees(("road", 0, 0), fact), True)
        self.assertIs(sees(("road", 1, 1), fact), True)
        self.assertIs(sees(("road", 1, 0), fact), False)
        self.assertIs(sees(("road", 0, 1), fact), False)
        self.assertIs(sees(("inn", 0, 0), fact), False)

    def test_seers(self):
        for plan in many_plans():
            for fact in facts(plan):
                expected = tuple(look for look in looks_by_hand(plan) if sees(look, fact))
                self.assertTrue(the_same(seers(plan, fact), expected))
                self.assertEqual(len(expected), plan.sides(fact[0]))

    def test_the_looks_that_see_a_fact_determine_it(self):
        for plan in many_plans():
            found = [seers(plan, fact) for fact in facts(plan)]
            self.assertEqual(len(set(found)), len(found))

    def test_the_looks_of_one_side_see_each_fact_of_the_table_exactly_once(self):
        for plan in many_plans():
            for fact in facts(plan):
                for side in range(plan.sides(fact[0])):
                    those = [look for look in looks(plan) if look[:2] == (fact[0], side) and sees(look, fact)]
                    self.assertEqual(len(those), 1)

    def test_seers_of_any_other_value(self):
        plan = plan_p()
        for value in [*any_values(), *variants(("road", (0, 1)))]:
            if any(the_same(value, fact) for fact in facts_by_hand(plan)):
                continue
            with self.subTest(value=value), self.assertRaises(BadFact):
                seers(plan, value)

    def test_check_looks(self):
        plan = plan_p()
        check_looks(plan, [])
        check_looks(plan, tuple(looks(plan)))
        for wrong, at in [(None, 0), ({}, 0), ("inn", 0), ([("inn", 0, 0), ("inn", 0, 2), 0], 1), (["a"], 0)]:
            with self.subTest(wrong=wrong), self.assertRaises(BadLook) as caught:
                check_looks(plan, wrong)
            self.assertEqual(caught.exception.at, at)


if __name__ == "__main__":
    unittest.main()
