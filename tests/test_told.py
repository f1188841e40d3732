"""Whether answers are answers, and possible, and what they show to be present (point 17)."""

import random

import oracle
from asksold.asks import answer, rows_of
from asksold.errors import BadAnswers, Contradiction
from asksold.plans import Plan, facts
from asksold.stores import Store
from asksold.told import clash, implied_store, is_answers
from cases import (
    any_values, ask_a, greatest_asks, long_answers, long_plan, narrowest_plan, plan_p, possible_answers,
    random_answers, small_asks, small_plan, store_s, the_same, too_great_asks, variants,
)
from checks import Checks

INN = (("town", None, ("inn",)),)
ROAD = (("town", None, ()), ("road", 0), ("town", None, ()))


class IsAnswersTest(Checks):
    def check(self, plan, thing):
        wrong = oracle.first_wrong_answer(plan, thing)
        with self.subTest(thing=thing):
            self.assertIs(is_answers(plan, thing), wrong is None)
            if wrong is not None:
                self.assert_error(BadAnswers, {"at": wrong}, clash, plan, thing)
                self.assert_error(BadAnswers, {"at": wrong}, implied_store, plan, thing)
            else:
                clash(plan, thing)

    def test_right_answers(self):
        for answers in [[], (), [(ask_a(), ((0, 1),))], ((ask_a(), ()),), [(INN, ((0,), (1,)))] * 3,
                        [(ask, tuple(answer(store_s(), ask))) for ask in small_asks()]]:
            self.check(plan_p(), answers)
            self.assertIs(is_answers(plan_p(), answers), True)
        rng = random.Random(1)
        for _ in range(200):
            plan = small_plan(rng, 40)
            self.assertIs(is_answers(plan, random_answers(rng, plan)), True)

    def test_any_value(self):
        for value in any_values():
            self.check(plan_p(), value)
            self.check(plan_p(), [value])
            self.check(plan_p(), [(INN, ()), value, value])
            self.check(plan_p(), [(value, ())])
            self.check(plan_p(), [(INN, value)])
            self.check(plan_p(), ((INN, ((1,), value)),))

    def test_any_value_at_each_place(self):
        for thing in variants([(INN, ((0,), (1,))), (ROAD, ((0, 1),))]):
            self.check(plan_p(), thing)

    def test_rows(self):
        for rows in [((1,), (0,)), ((0,), (0,)), [(0,)], ((2,),), ((0, 1),), ((True,),), ((-1,),), ([0],), (0,), (), None]:
            self.check(plan_p(), [(INN, ()), (INN, rows)])
            self.assertIs(is_answers(plan_p(), [(INN, rows)]), rows == ())
        self.assertIs(is_answers(plan_p(), [((("town", (1,), ("inn",)),), ((0,),))]), False)
        self.assertIs(is_answers(plan_p(), [[INN, ()]]), False)
        self.assertIs(is_answers(plan_p(), [(INN, (), ())]), False)

    def test_asks_with_too_many_rows(self):
        plan = long_plan()
        for ask in too_great_asks():
            thing = [(greatest_asks()[0], ()), (ask, ()), (ask, None)]
            self.assertIs(is_answers(plan, thing), False)
            self.assert_error(BadAnswers, {"at": 1}, clash, plan, thing)
            self.assert_error(BadAnswers, {"at": 1}, implied_store, plan, thing)
        self.assertIs(is_answers(plan, [(ask, ()) for ask in greatest_asks()]), True)

    def test_the_value_stays(self):
        for thing in [[(INN, ((0,), (1,))), (ROAD, ())], ((INN, ()),), [(INN, None)]]:
            before = [list(thing), type(thing)]
            is_answers(plan_p(), thing)
            if is_answers(plan_p(), thing):
                clash(plan_p(), thing)
                implied_store(plan_p(), thing)
            self.assertTrue(the_same(list(thing), before[0]))

    def test_parameters_by_name(self):
        answers = [(INN, ((1,),))]
        self.assertIs(is_answers(plan=plan_p(), thing=answers), True)
        self.assertIsNone(clash(plan=plan_p(), answers=answers))
        self.assertEqual(implied_store(plan=plan_p(), answers=answers).facts, (("inn", (1,)),))


class ClashTest(Checks):
    def check(self, plan, answers, presents):
        found = oracle.clash(plan, answers)
        self.assert_the_same(clash(plan, answers), found)
        self.assert_the_same(clash(plan, tuple(answers)), found)
        if presents is not None:
            self.assertEqual(found is None, any(oracle.gives(plan, present, answers) for present in presents))
        if found is not None:
            self.assert_error(Contradiction, {"at": found[0]}, implied_store, plan, answers)
            self.assert_error(Contradiction, {"at": found[0]}, implied_store, plan, tuple(answers))
            return
        store = implied_store(plan, answers)
        self.assertIs(type(store), Store)
        self.assertEqual(store, Store(plan, sorted(oracle.known(answers))))
        self.assertEqual(implied_store(plan, tuple(answers)), store)
        for ask, rows in answers:
            self.assertEqual(answer(store, ask), list(rows))

    def test_all_stores(self):
        rng = random.Random(2)
        verdicts = []
        for _ in range(300):
            plan = small_plan(rng)
            presents = oracle.all_presents(plan)
            for _ in range(5):
                answers = random_answers(rng, plan, 0.4)
                with self.subTest(plan=plan.tables, answers=answers):
                    self.check(plan, answers, presents)
                verdicts.append(clash(plan, answers) is None)
        self.assertGreater(min(verdicts.count(True), verdicts.count(False)), 200)

    def test_answers_of_a_store_are_possible(self):
        rng = random.Random(3)
        for _ in range(300):
            plan = small_plan(rng, 40)
            answers = possible_answers(rng, plan)
            self.assertIsNone(clash(plan, answers))
            self.check(plan, answers, None)

    def test_the_first_item_and_its_least_row(self):
        answers = [(ROAD, ((0, 1), (1, 1))), (ask_a(), ((0, 1),)), (INN, ((1,),)), (INN, ())]
        self.assertEqual(clash(plan_p(), answers), (1, (1, 1)))
        self.assertEqual(clash(plan_p(), answers[2:]), (1, (1,)))
        self.assertEqual(clash(plan_p(), answers[::-1]), (0, (1,)))
        self.assert_error(Contradiction, {"at": 1}, implied_store, plan_p(), answers)
        self.assertEqual(clash(plan_p(), [(INN, ((0,), (1,))), (INN, ())]), (1, (0,)))

    def test_no_answers(self):
        for plan in [plan_p(), narrowest_plan(), long_plan()]:
            self.assertIsNone(clash(plan, []))
            self.assertIsNone(clash(plan, ()))
            self.assertEqual(implied_store(plan, []), Store(plan))

    def test_an_ask_that_names_no_table(self):
        ask = (("town", None, ()),)
        self.assertEqual(clash(plan_p(), [(ask, ())]), (0, (0,)))
        self.assertEqual(clash(plan_p(), [(INN, ()), (ask, ((0,),))]), (1, (1,)))
        self.assertIsNone(clash(plan_p(), [(ask, ((0,), (1,)))]))
        self.assertEqual(implied_store(plan_p(), [(ask, ((0,), (1,)))]), Store(plan_p()))
        self.assert_error(Contradiction, {"at": 0}, implied_store, plan_p(), [(ask, ((0,),))])

    def test_answers_of_every_row_and_of_none(self):
        for ask in small_asks():
            rows = tuple(rows_of(plan_p(), ask))
            whole = implied_store(plan_p(), [(ask, rows)])
            self.assertEqual(whole.facts, tuple(sorted(oracle.known([(ask, rows)]))))
            if oracle.tables_of(ask):
                self.assertEqual(implied_store(plan_p(), [(ask, ())]), Store(plan_p()))
                self.assertEqual(clash(plan_p(), [(ask, rows), (ask, ())]), (1, rows[0]))

    def test_the_same_answer_twice(self):
        rng = random.Random(4)
        for _ in range(100):
            plan = small_plan(rng)
            answers = random_answers(rng, plan, 0.5)
            self.assertEqual(clash(plan, answers + answers), clash(plan, answers))

    def test_great_asks(self):
        for store, answers in long_answers():
            self.assertIsNone(clash(store.plan, answers))
            implied = implied_store(store.plan, answers)
            self.assertEqual(implied.facts, tuple(sorted(oracle.known(answers))))
            self.assertLessEqual(set(implied.facts), set(store.facts))
            for ask, rows in answers:
                self.assertEqual(answer(implied, ask), list(rows))
        plan, rows = long_plan(), tuple(rows_of(long_plan(), greatest_asks()[0]))
        self.assertEqual(implied_store(plan, [(greatest_asks()[0], ())]), Store(plan))
        whole = implied_store(plan, [(greatest_asks()[0], rows)])
        self.assertEqual(answer(whole, greatest_asks()[0]), list(rows))
        self.assertEqual(clash(plan, [(greatest_asks()[0], rows), (greatest_asks()[0], rows[1:])]), (1, rows[0]))

    def test_bad_answers_come_before_a_contradiction(self):
        answers = [(INN, ((1,),)), (INN, ()), (INN, None)]
        self.assert_error(BadAnswers, {"at": 2}, clash, plan_p(), answers)
        self.assert_error(BadAnswers, {"at": 2}, implied_store, plan_p(), answers)

    def test_equal_plans(self):
        rng = random.Random(5)
        for _ in range(50):
            plan = small_plan(rng)
            answers = random_answers(rng, plan, 0.5)
            twin = Plan(list(plan.columns), list(plan.tables))
            self.assertEqual(clash(twin, answers), clash(plan, answers))
            if clash(plan, answers) is None:
                self.assertEqual(implied_store(twin, answers), implied_store(plan, answers))
                self.assertLessEqual(set(implied_store(plan, answers).facts), set(facts(plan)))
