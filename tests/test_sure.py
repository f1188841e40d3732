"""What disclosed answers imply (points 18 and 19), and the asks for what looks see."""

import random

import oracle
from asksold.asks import answer, is_ask
from asksold.errors import BadAnswers, BadAsk, BadFact, BadLook, Contradiction, TooMany
from asksold.plans import Plan, facts, looks
from asksold.settling import other_store, settles
from asksold.stores import Store, agree
from asksold.sure import (
    ask_of_look, determined, is_reason_for, reason_for, status, sure_rows, two_stores,
)
from asksold.told import clash, implied_store
from cases import (
    any_values, ask_a, greatest_asks, long_answers, long_plan, many_plans, plan_p, possible_answers, random_answers,
    random_ask, random_looks, random_store, small_asks, small_plan, store_s, the_same, too_great_asks, variants,
)
from checks import Checks

INN = (("town", None, ("inn",)),)
ROAD = (("town", None, ()), ("road", 0), ("town", None, ()))


def random_cases(many, seed):
    """Tuples of a plan, possible answers, and the facts present in each store that has them all."""
    rng = random.Random(seed)
    while many > 0:
        plan = small_plan(rng, 7)
        answers = random_answers(rng, plan, 0.9)
        presents = [present for present in oracle.all_presents(plan) if oracle.gives(plan, present, answers)]
        if presents:
            many -= 1
            yield plan, answers, presents


def status_by_trial(fact, presents):
    words = {fact in present for present in presents}
    return "open" if len(words) == 2 else "present" if True in words else "absent"


def places_that_show(plan, answers, fact):
    """All (index, row) that show the status of a fact, by point 18."""
    there = oracle.known(answers)
    found = []
    for at, (ask, rows) in enumerate(answers):
        for row in oracle.rows(plan, ask):
            those = set(oracle.facts_of_row(ask, row))
            if fact in there and row in rows and fact in those:
                found.append((at, row))
            if fact not in there and row not in rows and those - there == {fact}:
                found.append((at, row))
    return found


def has_all(store, answers):
    return all(answer(store, ask) == list(rows) for ask, rows in answers)


class ExamplesTest(Checks):
    def test_examples(self):
        P, A = plan_p(), ask_a()
        answers = [(A, ((0, 1),))]
        self.assertEqual(
            [status(P, answers, fact) for fact in [("inn", (1,)), ("road", (1, 1)), ("inn", (0,))]],
            ["present", "absent", "open"])
        self.assertEqual(ask_of_look(P, ("road", 1, 0)), (("town", (0,), ()), ("road", 1), ("town", None, ())))

    def test_parameters_by_name(self):
        given = {"plan": plan_p(), "answers": [(ask_a(), ((0, 1),))]}
        self.assertEqual(status(**given, fact=("inn", (1,))), "present")
        self.assertEqual(reason_for(**given, fact=("inn", (1,))), (0, (0, 1)))
        self.assertIs(is_reason_for(**given, fact=("inn", (1,)), thing=(0, (0, 1))), True)
        self.assertEqual(determined(**given, ask=ask_a()), [(0, 1)])
        self.assertIsNone(two_stores(**given, ask=ask_a()))
        self.assertEqual(sure_rows(**given, ask=INN), ([(1,)], []))
        self.assertEqual(ask_of_look(plan=plan_p(), look=("inn", 0, 1)), (("town", (1,), ("inn",)),))


class StatusTest(Checks):
    def test_all_stores(self):
        words = []
        for plan, answers, presents in random_cases(250, 1):
            for fact in facts(plan):
                wanted = status_by_trial(fact, presents)
                self.assertEqual(status(plan, answers, fact), wanted)
                self.assertEqual(status(plan, tuple(answers), fact), wanted)
                words.append(wanted)
        self.assertGreater(min(words.count(word) for word in ["present", "absent", "open"]), 100)

    def test_order_and_answers_told_twice_change_nothing(self):
        for plan, answers, _ in random_cases(100, 2):
            for fact in facts(plan):
                wanted = status(plan, answers, fact)
                for other in [answers[::-1], answers + answers, answers[1:] + answers[:1]]:
                    self.assertEqual(status(plan, other, fact), wanted)

    def test_contradictions(self):
        rng = random.Random(3)
        found = 0
        while found < 100:
            plan = small_plan(rng)
            answers = random_answers(rng, plan, 0)
            at = oracle.clash(plan, answers)
            if at is not None:
                found += 1
                error = (Contradiction, {"at": at[0]})
                fact, ask = next(facts(plan)), random_ask(rng, plan)
                for call in [status, reason_for, lambda *given: is_reason_for(*given, None)]:
                    self.assert_error(*error, call, plan, answers, fact)
                    self.assert_error(*error, call, plan, answers, None)
                for call in [determined, two_stores, sure_rows]:
                    self.assert_error(*error, call, plan, answers, ask)
                    self.assert_error(*error, call, plan, answers, None)

    def test_no_answers(self):
        for fact in facts(plan_p()):
            self.assertEqual(status(plan_p(), [], fact), "open")
            self.assertEqual(status(plan_p(), [((("town", None, ()),), ((0,), (1,)))], fact), "open")
            self.assertEqual(reason_for(plan_p(), [], fact), (Store(plan_p()), Store(plan_p(), [fact])))

    def test_facts_that_no_answer_tells_of(self):
        answers = [(INN, ((0,),))]
        for fact in facts(plan_p()):
            if fact[0] == "road":
                self.assertEqual(status(plan_p(), answers, fact), "open")
        self.assertEqual(status(plan_p(), answers, ("inn", (0,))), "present")
        self.assertEqual(status(plan_p(), answers, ("inn", (1,))), "absent")

    def test_great_asks(self):
        for store, answers in long_answers():
            there = oracle.known(answers)
            for fact in list(facts(store.plan))[7::101]:
                word, found = status(store.plan, answers, fact), reason_for(store.plan, answers, fact)
                self.assertIs(is_reason_for(store.plan, answers, fact, found), True)
                self.assertEqual(word == "present", fact in there)
                self.assertNotEqual(word, "absent" if store.has(fact) else "present")
                if word == "open":
                    self.assertEqual([has_all(other, answers) for other in found], [True, True])
                    self.assertNotEqual(*[other.has(fact) for other in found])
                else:
                    at, row = found
                    ask, rows = answers[at]
                    self.assertIs(row in rows, word == "present")
                    self.assertEqual(set(oracle.facts_of_row(ask, row)) - there, {fact} - there)
                    self.assertIn(fact, oracle.facts_of_row(ask, row))


class ReasonTest(Checks):
    def test_the_first_item_and_its_least_row(self):
        for plan, answers, _ in random_cases(250, 4):
            there = oracle.known(answers)
            for fact in facts(plan):
                shown = places_that_show(plan, answers, fact)
                found = reason_for(plan, answers, fact)
                if shown:
                    self.assert_the_same(found, shown[0])
                else:
                    stores = (Store(plan, sorted(there)), Store(plan, sorted(there | {fact})))
                    self.assertIs(type(found), tuple)
                    self.assertEqual(found, stores)
                    self.assertEqual([has_all(store, answers) for store in found], [True, True])
                self.assertIs(is_reason_for(plan, answers, fact, found), True)

    def test_every_place(self):
        for plan, answers, presents in random_cases(100, 5):
            for fact in facts(plan):
                shown = places_that_show(plan, answers, fact)
                for at in range(-2, len(answers) + 2):
                    every = oracle.rows(plan, answers[at][0]) if 0 <= at < len(answers) else [(0,), (0, 0)]
                    for row in every:
                        self.assertIs(is_reason_for(plan, answers, fact, (at, row)), (at, row) in shown)
                        self.assertIs(is_reason_for(plan, answers, fact, [at, row]), False)

    def test_all_pairs_of_stores(self):
        for plan, answers, _ in random_cases(40, 6):
            presents = oracle.all_presents(plan)
            presents = presents if len(presents) <= 32 else random.Random(6).sample(presents, 32)
            stores = [Store(plan, present) for present in presents]
            right = [store for store in stores if oracle.gives(plan, store.facts, answers)]
            for fact in list(facts(plan))[:3]:
                is_open = status(plan, answers, fact) == "open"
                for one in stores:
                    for other in stores:
                        wanted = is_open and one in right and other in right and one.has(fact) != other.has(fact)
                        self.assertIs(is_reason_for(plan, answers, fact, (one, other)), wanted)

    def test_stores_of_another_plan_and_other_pairs(self):
        answers = [(ask_a(), ((0, 1),))]
        fact = ("inn", (0,))
        one, other = reason_for(plan_p(), answers, fact)
        given = (plan_p(), answers, fact)
        strange = Plan([("town", 2)], [("road", ("town", "town")), ("inn", ("town",))])
        self.assertIs(is_reason_for(*given, (one, other)), True)
        self.assertIs(is_reason_for(*given, (other, one)), True)
        for thing in [[one, other], (one,), (one, other, one), (one, one), (one, None), (None, other), one, (0, (0, 1)),
                      (one, Store(strange, other.facts)), (Store(strange, one.facts), Store(strange, other.facts)),
                      (one, Store.full(plan_p())), (Store(plan_p()), other), {one.facts: other}, (one, other.facts)]:
            self.assertIs(is_reason_for(*given, thing), False)
        self.assertIs(is_reason_for(plan_p(), answers, ("inn", (1,)), (one, other)), False)
        self.assertIs(is_reason_for(plan_p(), answers, ("road", (1, 1)), (one, other)), False)

    def test_any_value(self):
        answers = [(INN, ((1,),)), (ask_a(), ((0, 1),))]
        for fact in [("inn", (1,)), ("inn", (0,)), ("road", (1, 1)), ("road", (0, 0)), ("road", (0, 1))]:
            shown = places_that_show(plan_p(), answers, fact)
            near = [thing for place in [(0, (1,)), (1, (0, 1)), (0, (0,)), (1, (1, 1))] for thing in variants(place)]
            for value in [*any_values(), *near, *shown]:
                wanted = oracle.is_among(value, shown)
                self.assertIs(is_reason_for(plan_p(), answers, fact, value), wanted, (fact, value))


class DeterminedTest(Checks):
    def check(self, plan, answers, presents, ask):
        found = [oracle.answer(plan, ask, present) for present in presents]
        is_determined = all(other == found[0] for other in found)
        self.assert_the_same(determined(plan, answers, ask), found[0] if is_determined else None)
        rows = oracle.rows(plan, ask)
        surely = [row for row in rows if all(row in other for other in found)]
        never = [row for row in rows if not any(row in other for other in found)]
        self.assert_the_same(sure_rows(plan, answers, ask), (surely, never))
        pair = two_stores(plan, answers, ask)
        self.assertEqual(pair is None, is_determined)
        if pair is not None:
            self.check_stores(plan, answers, ask, pair)
            self.assertEqual(two_stores(plan, answers, ask), pair)
        return is_determined

    def check_stores(self, plan, answers, ask, pair):
        self.assertEqual([type(pair), len(pair)], [tuple, 2])
        for store in pair:
            self.assertIs(type(store), Store)
            self.assertEqual(store.plan, plan)
            self.assertTrue(has_all(store, answers))
        self.assertNotEqual(answer(pair[0], ask), answer(pair[1], ask))

    def test_all_stores(self):
        rng = random.Random(7)
        verdicts = []
        for plan, answers, presents in random_cases(250, 7):
            for ask in [random_ask(rng, plan), random_ask(rng, plan), *[ask for ask, _ in answers]]:
                with self.subTest(plan=plan.tables, answers=answers, ask=ask):
                    verdicts.append(self.check(plan, answers, presents, ask))
                    verdicts.append(self.check(plan, tuple(answers[::-1]), presents, ask))
        self.assertGreater(min(verdicts.count(True), verdicts.count(False)), 200)

    def test_rows_by_the_facts_of_excluded_rows(self):
        for plan, answers, _ in random_cases(150, 8):
            there = oracle.known(answers)
            for ask in [random_ask(random.Random(len(answers)), plan)]:
                surely, never = [], []
                for row in oracle.rows(plan, ask):
                    those = set(oracle.facts_of_row(ask, row))
                    if those <= there:
                        surely.append(row)
                    if any(set(oracle.facts_of_row(item[0], other)) <= those | there
                           for item in answers for other in oracle.excluded(plan, item)):
                        never.append(row)
                self.assertEqual(sure_rows(plan, answers, ask), (surely, never))

    def test_an_ask_that_names_no_table(self):
        ask = (("town", None, ()),)
        for answers in [[], [(INN, ())], [(ask, ((0,), (1,)))]]:
            self.assertEqual(determined(plan_p(), answers, ask), [(0,), (1,)])
            self.assertIsNone(two_stores(plan_p(), answers, ask))
            self.assertEqual(sure_rows(plan_p(), answers, ask), ([(0,), (1,)], []))

    def test_no_answers(self):
        self.assertIsNone(determined(plan_p(), [], INN))
        self.assertEqual(two_stores(plan_p(), [], INN), (Store(plan_p()), Store(plan_p(), [("inn", (0,))])))
        self.assertEqual(sure_rows(plan_p(), [], INN), ([], []))

    def test_answers_of_every_row_and_of_none(self):
        every = [(ROAD, tuple(oracle.rows(plan_p(), ROAD))), (INN, ((0,), (1,)))]
        none = [(ROAD, ()), (INN, ())]
        for ask in small_asks():
            self.assertEqual(determined(plan_p(), every, ask), oracle.rows(plan_p(), ask))
            rows = [] if oracle.tables_of(ask) else oracle.rows(plan_p(), ask)
            self.assertEqual(determined(plan_p(), none, ask), rows)

    def test_an_answer_determines_its_own_ask(self):
        for plan, answers, _ in random_cases(100, 9):
            for ask, rows in answers:
                self.assertEqual(determined(plan, answers, ask), list(rows))
                self.assertEqual(determined(plan, answers, oracle.reverse(ask)), sorted(row[::-1] for row in rows))

    def test_what_is_inferred_is_true_and_never_taken_back(self):
        rng = random.Random(10)
        for _ in range(200):
            plan = small_plan(rng, 30)
            store = random_store(rng, plan)
            asks = [random_ask(rng, plan) for _ in range(4)]
            answers = [(ask, tuple(answer(store, ask))) for ask in asks]
            ask = random_ask(rng, plan)
            earlier = {}
            before = ([], [])
            for many in range(5):
                told = answers[:many]
                words = {fact: status(plan, told, fact) for fact in facts(plan)}
                for fact, word in words.items():
                    self.assertNotEqual(word, "absent" if store.has(fact) else "present")
                    self.assertIn(earlier.get(fact, "open"), ["open", word])
                found = determined(plan, told, ask)
                self.assertIn(found, [None, answer(store, ask)])
                rows = sure_rows(plan, told, ask)
                self.assertLessEqual(set(before[0]), set(rows[0]))
                self.assertLessEqual(set(before[1]), set(rows[1]))
                self.assertLessEqual(set(rows[0]), set(answer(store, ask)))
                self.assertFalse(set(rows[1]) & set(answer(store, ask)))
                self.assertEqual(found is not None, len(rows[0] + rows[1]) == len(oracle.rows(plan, ask)))
                earlier, before = words, rows

    def test_the_answers_to_the_asks_of_all_looks_determine_everything(self):
        rng = random.Random(11)
        for _ in range(60):
            plan = small_plan(rng, 30)
            store = random_store(rng, plan)
            asks = [ask_of_look(plan, look) for look in looks(plan)]
            answers = [(ask, tuple(answer(store, ask))) for ask in asks]
            self.assertEqual(implied_store(plan, answers), store)
            for fact in facts(plan):
                self.assertEqual(status(plan, answers, fact), "present" if store.has(fact) else "absent")
            for ask in [random_ask(rng, plan) for _ in range(5)]:
                self.assertEqual(determined(plan, answers, ask), answer(store, ask))
                self.assertIsNone(two_stores(plan, answers, ask))

    def test_looks_settle_an_ask_exactly_if_the_answers_to_their_asks_determine_it(self):
        rng = random.Random(12)
        verdicts = []
        for _ in range(400):
            plan = small_plan(rng, 30)
            store, ask = random_store(rng, plan), random_ask(rng, plan)
            bought = random_looks(rng, plan, rng.choice([0.3, 0.6, 0.9]))
            answers = [(other, tuple(answer(store, other))) for other in [ask_of_look(plan, look) for look in bought]]
            found = determined(plan, answers, ask)
            verdicts.append(settles(store, bought, ask))
            if verdicts[-1]:
                self.assertEqual(found, answer(store, ask))
                self.assertIsNone(two_stores(plan, answers, ask))
                continue
            self.assertIsNone(found)
            other = other_store(store, bought, ask)
            self.assertTrue(has_all(other, answers))
            self.assertNotEqual(answer(other, ask), answer(store, ask))
            pair = two_stores(plan, answers, ask)
            self.check_stores(plan, answers, ask, pair)
            self.assertTrue(agree(pair[0], pair[1], bought))
            self.assertTrue(agree(pair[0], store, bought))
        self.assertGreater(min(verdicts.count(True), verdicts.count(False)), 80)

    def test_great_asks(self):
        for store, answers in long_answers():
            there = oracle.known(answers)
            for ask in greatest_asks()[:2]:
                found, pair = determined(store.plan, answers, ask), two_stores(store.plan, answers, ask)
                surely, never = sure_rows(store.plan, answers, ask)
                right = answer(store, ask)
                self.assertIn(found, [None, right])
                self.assertEqual(found is None, pair is not None)
                self.assertEqual(
                    surely, [row for row in right if there.issuperset(oracle.facts_of_row(ask, row))])
                self.assertFalse(set(never) & set(right))
                self.assertEqual(found is None, len(surely) + len(never) < len(oracle.rows(store.plan, ask)))
                if pair is not None:
                    self.check_stores(store.plan, answers, ask, pair)
            self.assertEqual(determined(store.plan, answers, answers[0][0]), list(answers[0][1]))

    def test_returned_lists_can_be_changed(self):
        answers = [(ask_a(), ((0, 1),))]
        determined(plan_p(), answers, ask_a()).clear()
        for part in sure_rows(plan_p(), answers, ask_a()):
            part.clear()
        self.assertEqual(determined(plan_p(), answers, ask_a()), [(0, 1)])
        self.assertEqual(sure_rows(plan_p(), answers, ask_a()), ([(0, 1)], [(0, 0), (1, 0), (1, 1)]))
        self.assertEqual(answers, [(ask_a(), ((0, 1),))])


class AskOfLookTest(Checks):
    def test_the_stated_ask(self):
        plan = Plan([("a", 2), ("b", 3)], [("t", ("a", "b")), ("u", ("b",)), ("v", ("b", "b"))])
        asks = {
            ("u", 0, 2): (("b", (2,), ("u",)),),
            ("t", 0, 1): (("a", (1,), ()), ("t", 0), ("b", None, ())),
            ("t", 1, 2): (("b", (2,), ()), ("t", 1), ("a", None, ())),
            ("v", 0, 0): (("b", (0,), ()), ("v", 0), ("b", None, ())),
            ("v", 1, 0): (("b", (0,), ()), ("v", 1), ("b", None, ())),
        }
        for look, ask in asks.items():
            self.assert_the_same(ask_of_look(plan, look), ask)

    def test_every_look_of_every_plan(self):
        for plan in many_plans():
            for look in looks(plan):
                self.assertIs(is_ask(plan, ask_of_look(plan, look)), True)

    def test_its_answer_tells_exactly_what_the_look_sees(self):
        for plan in many_plans():
            rng = random.Random(13)
            for store in [Store(plan), Store.full(plan), *[random_store(rng, plan) for _ in range(3)]]:
                for look in looks(plan):
                    rows = answer(store, ask_of_look(plan, look))
                    seen = [row[::-1] if look[1] == 1 else row for row in rows]
                    self.assertEqual(tuple(sorted(seen)), store.seen(look))

    def test_stores_agree_on_the_look_exactly_if_they_give_one_answer(self):
        stores = [Store(plan_p(), present) for present in oracle.all_presents(plan_p())]
        for look in looks(plan_p()):
            ask = ask_of_look(plan_p(), look)
            for one in stores[::5]:
                for other in stores:
                    self.assertIs(agree(one, other, [look]), answer(one, ask) == answer(other, ask))

    def test_any_other_value(self):
        for value in [*any_values(), *variants(("road", 0, 1)), *facts(plan_p())]:
            if not oracle.is_look(plan_p(), value):
                with self.subTest(value=value):
                    self.assert_error(BadLook, {"at": 0}, ask_of_look, plan_p(), value)


class ErrorsTest(Checks):
    def fact_calls(self):
        return [status, reason_for, lambda plan, answers, fact: is_reason_for(plan, answers, fact, None)]

    def ask_calls(self):
        return [determined, two_stores, sure_rows]

    def test_any_value_as_answers(self):
        for value in any_values():
            for answers in [value, [value], [(INN, ()), value], [(INN, value)], [(value, ())]]:
                at = oracle.first_wrong_answer(plan_p(), answers)
                if at is not None:
                    with self.subTest(answers=answers):
                        for call in self.fact_calls():
                            self.assert_error(BadAnswers, {"at": at}, call, plan_p(), answers, ("inn", (0,)))
                        for call in self.ask_calls():
                            self.assert_error(BadAnswers, {"at": at}, call, plan_p(), answers, ask_a())

    def test_any_value_as_fact(self):
        for value in [*any_values(), *variants(("road", (0, 1))), *looks(plan_p())]:
            if not oracle.is_fact(plan_p(), value):
                with self.subTest(value=value):
                    for call in self.fact_calls():
                        self.assert_error(BadFact, {}, call, plan_p(), [(ask_a(), ())], value)

    def test_any_value_as_ask(self):
        for value in [*any_values(), *variants(ask_a())[::7]]:
            if not oracle.is_ask(plan_p(), value):
                with self.subTest(value=value):
                    for call in self.ask_calls():
                        self.assert_error(BadAsk, {}, call, plan_p(), [(ask_a(), ())], value)

    def test_order_of_the_errors(self):
        plan, ask = long_plan(), greatest_asks()[1]
        row = tuple(oracle.rows(plan, ask)[0])
        right = {"plan": plan, "answers": [(ask, ())]}
        answers = [
            ("answers", None, BadAnswers, {"at": 0}), ("answers", {}, BadAnswers, {"at": 0}),
            ("answers", [(ask, ()), (ask, (row,)), (ask, [row])], BadAnswers, {"at": 2}),
            ("answers", [(ask, ()), (too_great_asks()[0], ())], BadAnswers, {"at": 1}),
            ("answers", [(ask, (row,)), (ask, ())], Contradiction, {"at": 1}),
        ]
        facts = [("fact", None, BadFact, {}), ("fact", ("pa", (0, 6)), BadFact, {})]
        asks = [("ask", None, BadAsk, {}), ("ask", ask[:-1], BadAsk, {}),
                ("ask", too_great_asks()[0], TooMany, {"most": 5000}),
                ("ask", too_great_asks()[1], TooMany, {"most": 5000})]
        for call in self.fact_calls():
            self.assert_order(call, {**right, "fact": ("pa", (0, 5))}, answers + facts)
            call(**right, fact=("pa", (0, 5)))
        for call in self.ask_calls():
            self.assert_order(call, {**right, "ask": ask}, answers + asks)
            call(**right, ask=ask)

    def test_arguments_stay(self):
        for plan, answers, _ in random_cases(40, 14):
            before = list(answers)
            for fact in facts(plan):
                status(plan, answers, fact)
                is_reason_for(plan, answers, fact, reason_for(plan, answers, fact))
            for ask, _ in before:
                for call in self.ask_calls():
                    call(plan, answers, ask)
            self.assertTrue(the_same(answers, before))

    def test_answers_of_a_store_raise_nothing(self):
        rng = random.Random(15)
        for _ in range(100):
            plan = small_plan(rng, 30)
            answers = possible_answers(rng, plan)
            self.assertIsNone(clash(plan, answers))
            for fact in facts(plan):
                for call in self.fact_calls():
                    call(plan, answers, fact)
            for call in self.ask_calls():
                call(plan, answers, random_ask(rng, plan))

    def test_equal_arguments_give_equal_results(self):
        for plan, answers, _ in random_cases(40, 16):
            twin = Plan(list(plan.columns), list(plan.tables))
            for fact in facts(plan):
                self.assertEqual(reason_for(twin, tuple(answers), fact), reason_for(plan, answers, fact))
            for ask, _ in answers:
                self.assertEqual(two_stores(twin, tuple(answers), ask), two_stores(plan, answers, ask))

    def test_the_store_s(self):
        answers = [(ask, tuple(answer(store_s(), ask))) for ask in small_asks()]
        for fact in facts(plan_p()):
            word = status(plan_p(), answers, fact)
            self.assertEqual(word, "present" if store_s().has(fact) else "absent")
