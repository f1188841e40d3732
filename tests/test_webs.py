"""Webs (point 23), with points 10, 11 and 13 for them."""

import random

import oracle
from asksold.asks import answer, rows_of, threads
from asksold.errors import BadAsk, BadLook, TooMany
from asksold.plans import Plan, facts, looks
from asksold.samples import sample_ask, sample_plan, sample_store
from asksold.settling import settles
from asksold.stores import Store
from asksold.webs import is_web, web_answer, web_of, web_rows, web_settles, web_threads
from cases import (
    any_values, greatest_asks, long_plan, many_plans, random_ask, random_looks, random_plan, random_store, random_web,
    small_asks, small_plan, too_great_asks, variants, widest_plan,
)
from checks import Checks, first

WEB = (("road", ("a", "b")), ("inn", ("b",)))
LOOP = (("road", ("a", "a")),)


def wide_plan(sizes):
    """A plan with a table for each two of its columns, behind one another."""
    columns = list(zip("abcdef", sizes))
    return Plan(columns, [("t" + one + other, (one, other)) for one, other in zip("ace", "bdf")])


def wide_web(many=3):
    return tuple(("t" + one + other, (one, other)) for one, other in list(zip("ace", "bdf"))[:many])


def random_cases(many, seed):
    rng = random.Random(seed)
    for _ in range(many):
        plan = random_plan(rng)
        yield rng, plan, random_store(rng, plan), random_web(rng, plan)


class ExamplesTest(Checks):
    def test_examples(self):
        P, S, A = sample_plan(), sample_store(), sample_ask()
        self.assertEqual([web_of(P, A) == WEB, web_answer(S, WEB), web_answer(S, LOOP)], [True, [(0, 1)], []])

    def test_parameters_by_name(self):
        P, S = sample_plan(), sample_store()
        self.assertIs(is_web(thing=WEB, plan=P), True)
        self.assertEqual(web_of(ask=sample_ask(), plan=P), WEB)
        self.assertEqual(list(web_rows(web=WEB, plan=P)), [(0, 0), (0, 1), (1, 0), (1, 1)])
        self.assertEqual(web_answer(web=WEB, store=S), [(0, 1)])
        self.assertEqual(list(web_threads(web=WEB, store=S)), list(threads(S, sample_ask())))
        self.assertIs(web_settles(web=WEB, looks=list(looks(P)), store=S), True)


class IsWebTest(Checks):
    def test_any_value(self):
        plan = sample_plan()
        for value in [*any_values(), *variants(WEB), *variants(LOOP), *small_asks(), list(WEB), WEB + WEB]:
            with self.subTest(value=value):
                self.assertIs(is_web(plan, value), oracle.is_web(plan, value))
        self.assertIs(is_web(plan, WEB), True)
        self.assertIs(is_web(plan, LOOP), True)
        self.assertIs(is_web(plan, ()), False)

    def test_marks_of_one_column(self):
        plan = Plan([("a", 2), ("b", 2)], [("r", ("a", "b")), ("s", ("b", "a")), ("t", ("a",)), ("u", ("b",))])
        for web, right in [
            ((("r", ("x", "x")),), False), ((("r", ("x", "y")), ("s", ("x", "y"))), False),
            ((("r", ("x", "y")), ("s", ("y", "x"))), True), ((("t", ("x",)), ("u", ("x",))), False),
            ((("t", ("x",)), ("s", ("y", "x")), ("u", ("y",)), ("r", ("z", "y"))), True),
            ((("t", ("a",)), ("u", ("b",))), True), ((("t", ("b",)), ("u", ("a",))), True),
            ((("t", ("x",)), ("t", ("y",))), False), ((("t", ("x", "y")),), False), ((("r", ("x",)),), False),
            ((("t", ["x"]),), False), ([("t", ("x",))], False), ((["t", ("x",)],), False), ((("t", "x"),), False),
            ((("t", ("",)),), False), ((("t", ("abcdefgh",)),), True), ((("t", ("abcdefghi",)),), False),
            ((("t", ("X",)),), False), ((("t", (0,)),), False), ((("v", ("x",)),), False),
        ]:
            with self.subTest(web=web):
                self.assertIs(is_web(plan, web), right)
                self.assertIs(oracle.is_web(plan, web), right)

    def test_eight_parts_and_any_number_of_rows(self):
        plan = widest_plan()
        marks = iter("abcdefghijklmnop")
        web = tuple((table, tuple(next(marks) for _ in columns)) for table, columns in plan.tables)
        self.assertEqual(len(web), 8)
        for many in range(1, 9):
            self.assertIs(is_web(plan, web[:many]), True)
            self.assertIs(is_web(plan, web[-many:]), True)
        self.assertIs(is_web(plan, web + web[:1]), False)
        self.assertIs(is_web(plan, web[:7] + web[:1]), False)
        self.assert_error(TooMany, {"most": 5000}, first(web_rows), plan, web)

    def test_webs_by_chance(self):
        for rng, plan, _, web in random_cases(300, 1):
            self.assertIs(is_web(plan, web), True)
            self.assertIs(oracle.is_web(plan, web), True)
            for other in many_plans():
                self.assertIs(is_web(other, web), oracle.is_web(other, web))


class RowsTest(Checks):
    def test_rows_answers_and_threads(self):
        kinds = set()
        for rng, plan, store, web in random_cases(400, 2):
            self.assert_the_same(list(web_rows(plan, web)), oracle.rows(plan, web))
            rows = oracle.answer(plan, web, store.facts)
            self.assert_the_same(web_answer(store, web), rows)
            bonds = oracle.threads(plan, web, store.facts)
            self.assert_the_same(list(web_threads(store, web)), list(bonds))
            for _ in range(6):
                bought = random_looks(rng, plan, rng.choice([0.3, 0.6, 0.8, 0.95, 1]))
                found = web_settles(store, bought, web)
                self.assertIs(found, oracle.settled(bonds, bought))
                self.assertIs(web_settles(store, tuple(bought), web), found)
                kinds.add((found, bool(rows), len(web) > 2))
        self.assertEqual(len(kinds), 8)

    def test_looks_that_settle_by_point_11(self):
        """By trying all stores: the looks settle a web exactly if all stores that agree on them have its answer."""
        rng = random.Random(3)
        counts = {True: 0, False: 0}
        for _ in range(60):
            plan = small_plan(rng, 6)
            web = random_web(rng, plan)
            presents = oracle.all_presents(plan)
            answers = {present: oracle.answer(plan, web, present) for present in presents}
            for present in rng.sample(presents, min(8, len(presents))):
                bought = random_looks(rng, plan, rng.choice([0.3, 0.6, 0.9]))
                seen = {fact for fact in oracle.facts_by_trial(plan) if set(oracle.looks_of_fact(fact)) & set(bought)}
                right = all(answers[other] == answers[present] for other in presents
                            if set(other) & seen == set(present) & seen)
                self.assertIs(web_settles(Store(plan, present), bought, web), right)
                counts[right] += 1
        self.assertGreater(min(counts.values()), 50)

    def test_a_mark_twice_in_one_part(self):
        plan, store = sample_plan(), sample_store()
        self.assert_the_same(list(web_rows(plan, LOOP)), [(0,), (1,)])
        self.assert_the_same(list(web_threads(store, LOOP)), [("absent", (0,)), ("absent", (1,))])
        self.assertIs(web_settles(store, [("road", 0, 0), ("road", 1, 1)], LOOP), True)
        self.assertIs(web_settles(store, [("road", 0, 0), ("road", 1, 0)], LOOP), False)
        loops = store.with_facts(("road", (1, 1)))
        self.assertEqual(web_answer(loops, LOOP), [(1,)])
        self.assertEqual(web_answer(loops, (("road", ("x", "x")), ("inn", ("x",)))), [(1,)])

    def test_marks_in_ascending_order(self):
        plan = Plan([("a", 2), ("b", 3)], [("r", ("a", "b"))])
        store = Store(plan, [("r", (1, 2)), ("r", (0, 1))])
        self.assertEqual(web_answer(store, (("r", ("x", "y")),)), [(0, 1), (1, 2)])
        self.assertEqual(web_answer(store, (("r", ("y", "x")),)), [(1, 0), (2, 1)])
        self.assertEqual(web_answer(store, (("r", ("aa", "b")),)), [(0, 1), (1, 2)])

    def test_5000_rows(self):
        """Exactly 5000 rows, from a web whose tables share no mark, and a few more."""
        plan = wide_plan([5, 5, 5, 5, 4, 2])
        store = Store(plan, [fact for at, fact in enumerate(facts(plan)) if at % 3])
        self.assertEqual(len(list(web_rows(plan, wide_web()))), 5000)
        self.assertEqual(web_answer(store, wide_web()), oracle.answer(plan, wide_web(), store.facts))
        self.assertEqual(len(list(web_threads(store, wide_web()))),
                         len(oracle.threads(plan, wide_web(), store.facts)))
        self.assertIs(web_settles(store, list(looks(plan)), wide_web()), True)
        self.assertIs(web_settles(store, [], wide_web()), False)
        great = wide_plan([6, 6, 6, 6, 4, 1])
        for call, values in [
            (first(web_rows), (great,)), (web_answer, (Store(great),)), (first(web_threads), (Store(great),)),
            (web_settles, (Store(great), [])),
        ]:
            self.assert_error(TooMany, {"most": 5000}, call, *values, wide_web())

    def test_wrong_webs_and_looks(self):
        plan, store = sample_plan(), sample_store()
        for value in [*any_values(), sample_ask(), *variants(WEB)]:
            if oracle.is_web(plan, value):
                continue
            self.assert_error(BadAsk, {}, first(web_rows), plan, value)
            self.assert_error(BadAsk, {}, web_answer, store, value)
            self.assert_error(BadAsk, {}, first(web_threads), store, value)
            self.assert_error(BadAsk, {}, web_settles, store, [("inn", 0, 0)], value)
        for value in any_values():
            if type(value) not in (list, tuple):
                for web in [WEB, None]:
                    self.assert_error(BadLook, {"at": 0}, web_settles, store, value, web)
            if not oracle.is_look(plan, value):
                for web in [WEB, None, wide_web()]:
                    wrong = [("inn", 0, 0), ("road", 1, 1), value, None]
                    self.assert_error(BadLook, {"at": 2}, web_settles, store, wrong, web)
                    self.assert_error(BadLook, {"at": 0}, web_settles, store, (value, value), web)
        great = Store(wide_plan([6] * 6))
        self.assert_error(BadLook, {"at": 0}, web_settles, great, [None], wide_web())

    def test_a_generator_raises_with_the_first_item(self):
        web_rows(sample_plan(), None)
        web_threads(sample_store(), None)

    def test_lists_are_new(self):
        found = web_answer(sample_store(), WEB)
        found.clear()
        self.assertEqual(web_answer(sample_store(), WEB), [(0, 1)])


class WebOfTest(Checks):
    def test_the_same_rows_answer_and_threads(self):
        counts = [0, 0]
        rng = random.Random(4)
        for _ in range(600):
            plan = random_plan(rng)
            ask, store = random_ask(rng, plan), random_store(rng, plan)
            if rng.random() < 0.7:
                ask = tuple(part if at % 2 else (part[0], None, part[2]) for at, part in enumerate(ask))
            web = web_of(plan, ask)
            has_web = bool(oracle.tables_of(ask)) and all(stop[1] is None for stop in ask[::2])
            counts[has_web] += 1
            self.assertIs(web is not None, has_web)
            if web is not None:
                self.assert_the_same(web, self.web_by_hand(ask))
                self.assertEqual(list(web_rows(plan, web)), list(rows_of(plan, ask)))
                self.assertEqual(web_answer(store, web), answer(store, ask))
                self.assertEqual(list(web_threads(store, web)), list(threads(store, ask)))
                bought = random_looks(rng, plan, 0.8)
                self.assertIs(web_settles(store, bought, web), settles(store, bought, ask))
        self.assertGreater(min(counts), 100)

    def web_by_hand(self, ask):
        """The parts in the order of the facts of a row."""
        facts_in_order = oracle.facts_of_row(ask, "abcdef"[:len(ask) // 2 + 1])
        return tuple(facts_in_order)

    def test_edges(self):
        plan = sample_plan()
        self.assertIsNone(web_of(plan, (("town", None, ()),)))
        self.assertIsNone(web_of(plan, (("town", (0,), ()),)))
        self.assertIsNone(web_of(plan, (("town", (0, 1), ("inn",)),)))
        self.assertEqual(web_of(plan, (("town", None, ("inn",)),)), (("inn", ("a",)),))
        back = (("town", None, ("inn",)), ("road", 1), ("town", None, ()))
        self.assertEqual(web_of(plan, back), (("inn", ("a",)), ("road", ("b", "a"))))
        self.assertIsNone(web_of(plan, (*back[:2], ("town", (0, 1), ()))))

    def test_six_stops(self):
        sizes = Plan([("a", 2)], [(name, ("a", "a")) for name in "pqrst"] + [(name, ("a",)) for name in "uvw"])
        a = ("a", None, ())
        ask = (("a", None, ("u", "w")), ("p", 0), a, ("q", 1), a, ("r", 0), ("a", None, ("v",)), ("s", 1), a, ("t", 0), a)
        self.assertEqual(web_of(sizes, ask), (
            ("u", ("a",)), ("w", ("a",)), ("p", ("a", "b")), ("q", ("c", "b")), ("r", ("c", "d")), ("v", ("d",)),
            ("s", ("e", "d")), ("t", ("e", "f"))))

    def test_errors(self):
        for value in [*any_values(), WEB, *variants(sample_ask())]:
            if not oracle.is_ask(sample_plan(), value):
                self.assert_error(BadAsk, {}, web_of, sample_plan(), value)
        for ask in too_great_asks():
            self.assert_error(TooMany, {"most": 5000}, web_of, long_plan(), ask)
        for ask in greatest_asks():
            self.assertIsNone(web_of(long_plan(), ask))


if __name__ == "__main__":
    import unittest
    unittest.main()
