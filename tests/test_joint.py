"""Several questions at once: the joint price and the trees that show it (points 23 and 24, and (e) of point 2)."""

import random

import oracle
from asksold.asks import answer, is_ask
from asksold.errors import BadAsk, BadPrices, TooMany
from asksold.joint import is_joint_tree, joint_price, joint_tree
from asksold.market import Market
from asksold.plans import Plan, facts, looks
from asksold.prices import cheapest, price, uniform
from asksold.samples import sample_ask, sample_plan, sample_prices, sample_store
from asksold.settling import settles
from asksold.stores import Store
from asksold.sure import determined
from asksold.webs import web_of, web_settles
from cases import (
    any_values, places, random_ask, random_plan, random_prices, random_question, random_store, replaced, shuffled,
    small_plan, variants,
)
from checks import Checks
from test_webs import WEB, wide_plan, wide_web

INN = (("town", None, ("inn",)),)
OTHER = (("town", (1,), ("inn",)),)
NOTHING = (("town", None, ()),)
P, S, A, ONE = sample_plan(), sample_store(), sample_ask(), sample_prices()
TREE = ((0, ("present", ("inn", (1,))), (1,)), ("dear",))


def settles_all(store, bought, questions):
    return all(settles(store, bought, question) if is_ask(store.plan, question) else
               web_settles(store, bought, question) for question in questions)


def are_few(prices, questions, most=12):
    """Whether few enough looks at the tables of the questions cost more than 0."""
    tables = {name for question in questions for name in oracle.tables_of(question)}
    return len([look for look in prices if look[0] in tables and prices[look] > 0]) <= most


def random_cases(many, seed, most=4, dearest=9):
    """Tuples of a source of chance, a store, prices, questions, and what trying all sets of looks shows of them."""
    rng = random.Random(seed)
    while many > 0:
        plan = random_plan(rng)
        store, prices = random_store(rng, plan), random_prices(rng, plan)
        questions = [random_question(rng, plan) for _ in range(rng.randint(1, most))]
        if are_few(prices, questions, dearest):
            many -= 1
            yield rng, store, prices, questions, oracle.Joint(plan, questions, store.facts, prices)


def grown(rng, trial, number, most):
    """A tree for the number by chance, its nodes in any possible order; None if it would have too many nodes."""
    paths, nodes = [()], {}
    for path in paths:
        bought = [look for look, _ in path]
        refused = [look for _, those in path for look in those]
        if sum(trial.prices[look] for look in bought) >= number:
            nodes[path] = None
            continue
        fitting = [(index, thread, trial.branches(thread, index, bought, refused))
                   for index, bonds in enumerate(trial.bonds) for thread in bonds]
        index, thread, those = rng.choice([part for part in fitting if part[2] is not None])
        nodes[path] = (index, thread, [(*path, (look, tuple(those[:at]))) for at, look in enumerate(those)])
        paths.extend(nodes[path][2])
        if len(paths) > most:
            return None
    order = [()]
    waiting = list(nodes[()][2]) if nodes[()] else []
    while waiting:
        path = waiting.pop(rng.randrange(len(waiting)))
        order.append(path)
        waiting.extend(nodes[path][2] if nodes[path] else [])
    return tuple(("dear",) if nodes[path] is None else
                 (*nodes[path][:2], tuple(order.index(child) for child in nodes[path][2])) for path in order)


class ExamplesTest(Checks):
    def test_examples(self):
        found = [joint_price(S, ONE, [A])[0], joint_price(S, ONE, [OTHER]), joint_price(S, ONE, [A, OTHER])[0]]
        self.assertEqual(found, [3, (1, (("inn", 0, 1),)), 3])
        self.assertEqual([is_joint_tree(S, ONE, [OTHER], 1, TREE), is_joint_tree(S, ONE, [OTHER], 2, TREE)],
                         [True, False])

    def test_parameters_by_name(self):
        self.assertEqual(joint_price(questions=[OTHER], prices=ONE, store=S), (1, (("inn", 0, 1),)))
        tree = joint_tree(questions=[OTHER], prices=ONE, store=S)
        self.assertIs(is_joint_tree(thing=tree, number=1, questions=[OTHER], prices=ONE, store=S), True)


class JointPriceTest(Checks):
    def check(self, store, prices, questions, trial):
        found = joint_price(store, prices, questions)
        self.assertEqual(None if found is None else found[0], trial.price)
        if found is not None:
            number, bought = found
            self.assertIs(type(bought), tuple)
            self.assertTrue(oracle.is_rising(bought))
            self.assertTrue(all(look in prices for look in bought))
            self.assertEqual(sum(prices[look] for look in bought), number)
            self.assertIs(settles_all(store, bought, questions), True)
        wanted = sum(prices.values()) + 1 if found is None else found[0]
        tree = joint_tree(store, prices, questions)
        self.assertTrue(trial.is_tree(wanted, tree), tree)
        for number in [wanted, wanted - 1, 0, -1, -10 ** 39]:
            if number <= wanted:
                self.assertIs(is_joint_tree(store, prices, questions, number, tree), True)
        if found is not None:
            self.assertIs(is_joint_tree(store, prices, questions, wanted + 1, tree), False)
        return found

    def test_all_sets_of_looks(self):
        kinds = set()
        for rng, store, prices, questions, trial in random_cases(700, 1):
            before = (dict(prices), list(questions), store.facts)
            with self.subTest(plan=store.plan.tables, facts=store.facts, prices=prices, questions=questions):
                found = self.check(store, prices, questions, trial)
                self.assertEqual((prices, questions, store.facts), before)
                self.assert_the_same(joint_price(store, shuffled(prices), tuple(questions)), found)
                self.assert_the_same(joint_tree(store, shuffled(prices), tuple(questions)),
                                     joint_tree(store, prices, questions))
            kinds.add((found is None, trial.price == 0, len(questions), 0 in prices.values()))
        self.assertGreater(len(kinds), 18)

    def test_questions_that_need_nothing(self):
        for prices in [{}, ONE, uniform(P, 0)]:
            self.assertEqual(joint_price(S, prices, [NOTHING]), (0, ()))
            self.assertEqual(joint_tree(S, prices, [NOTHING, NOTHING]), (("dear",),))
        self.assertEqual(joint_price(S, ONE, [NOTHING, OTHER]), (1, (("inn", 0, 1),)))
        free = uniform(P, 0)
        self.assertEqual(joint_price(S, free, [A, WEB])[0], 0)
        self.assertIs(settles_all(S, joint_price(S, free, [A, WEB])[1], [A, WEB]), True)
        self.assertEqual(joint_tree(S, free, [A, WEB]), (("dear",),))

    def test_questions_that_nothing_settles(self):
        part = {look: 7 for look in ONE if look != ("inn", 0, 1)}
        for questions in [[INN], [A, INN], [NOTHING, OTHER], [WEB]]:
            self.assertIsNone(joint_price(S, part, questions))
            self.assertIsNone(joint_price(S, {}, questions))
            tree = joint_tree(S, part, questions)
            for number in [0, 7 * 5 + 1, 10 ** 39]:
                self.assertIs(is_joint_tree(S, part, questions, number, tree), True)
        self.assertEqual(joint_tree(S, {}, [OTHER]), ((0, ("present", ("inn", (1,))), ()),))

    def test_the_greatest_prices(self):
        dear = {look: 10 ** 6 for look in ONE}
        self.assertEqual(joint_price(S, dear, [A])[0], 3 * 10 ** 6)
        self.assertEqual(joint_price(S, {**dear, ("inn", 0, 1): 0}, [A])[0], 2 * 10 ** 6)

    def test_twelve_looks(self):
        """The most looks that cost something: many questions and prices by chance, still by trying all sets."""
        plan = Plan([("a", 3)], [("r", ("a", "a")), ("s", ("a", "a")), ("t", ("a",)), ("u", ("a",))])
        questions = [
            (("r", ("x", "y")), ("s", ("y", "x"))), (("r", ("x", "y")), ("s", ("x", "y"))), (("r", ("x", "x")),),
            (("a", None, ()), ("r", 0), ("a", None, ()), ("s", 0), ("a", None, ())),
        ]
        for seed in range(6):
            rng = random.Random(seed)
            store = Store(plan, [fact for fact in facts(plan) if rng.random() < 0.4])
            prices = {look: rng.randint(1, 9) for look in looks(plan)}
            trial = oracle.Joint(plan, questions, store.facts, prices)
            self.assertEqual(len(trial.dear), 12)
            self.check(store, prices, questions, trial)

    def test_the_most_branches(self):
        """Absent rows that need a look for each of six values, so that the trees are as large as they can be."""
        plan = wide_plan([6, 6, 6, 6, 1, 1])
        for present in [[], list(facts(plan))[::2], list(facts(plan))]:
            store = Store(plan, present)
            for tables in [("tab",), ("tab", "tcd")]:
                prices = {look: 1 + at % 3 for at, look in enumerate(looks(plan)) if look[0] in tables}
                prices = {look: number for look, number in prices.items() if look[0] == "tab" or look[1] > 5}
                questions = [wide_web(1), (("a", None, ()), ("tab", 0), ("b", None, ()))]
                self.check(store, prices, questions, oracle.Joint(plan, questions, store.facts, prices))


class TreeTest(Checks):
    def test_trees_by_chance(self):
        """Right trees with any threads and any order of the nodes, and the same with one place changed."""
        counts = {True: 0, False: 0}
        for rng, store, prices, questions, trial in random_cases(150, 2, 3, 5):
            number = sum(prices.values()) + 1 if trial.price is None else trial.price
            tree = grown(rng, trial, number, 30)
            if tree is None:
                continue
            self.assertTrue(trial.is_tree(number, tree))
            self.assertIs(is_joint_tree(store, prices, questions, number, tree), True)
            for _ in range(40):
                other = self.changed(rng, tree)
                for wanted in [number, number - 1, number + 1, 0]:
                    right = trial.is_tree(wanted, other)
                    self.assertIs(is_joint_tree(store, prices, questions, wanted, other), right, (other, wanted))
                    counts[right] += 1
        self.assertGreater(min(counts.values()), 300)

    def changed(self, rng, tree):
        """The tree with one place replaced, or with a node put in, left out, doubled or moved."""
        way = rng.randrange(5)
        at = rng.randrange(len(tree))
        if way == 0:
            return replaced(tree, rng.choice(places(tree)), rng.choice(any_values()))
        if way == 1:
            numbers = [place for place in places(tree) if place and type(self.at(tree, place)) is int]
            return replaced(tree, rng.choice(numbers), rng.randint(-1, len(tree))) if numbers else tree + tree
        if way == 2:
            return tree[:at] + tree[at + 1:]
        if way == 3:
            return tree[:at] + (tree[rng.randrange(len(tree))],) + tree[at + rng.randrange(2):]
        return replaced(tree, (at,), ("dear",))

    def at(self, thing, place):
        for index in place:
            thing = thing[index]
        return thing

    def test_any_value(self):
        for questions, number, tree in [([OTHER], 1, TREE), ([A, OTHER], 3, joint_tree(S, ONE, [A, OTHER]))]:
            trial = oracle.Joint(P, questions, S.facts, ONE)
            self.assertIs(is_joint_tree(S, ONE, questions, number, tree), True)
            for value in [*any_values(), *variants(tree), list(tree), (), (tree,), tree + tree, tree[::-1]]:
                right = trial.is_tree(number, value)
                self.assertIs(is_joint_tree(S, ONE, questions, number, value), right, value)
            for value in any_values():
                right = type(value) is int and value <= number
                self.assertIs(is_joint_tree(S, ONE, questions, value, tree), right, value)
                self.assertIs(is_joint_tree(S, ONE, questions, value, value), False)

    def test_what_a_tree_must_have(self):
        absent, present = ("absent", (0,)), ("present", ("inn", (1,)))
        right = ((0, absent, (1,)), (0, present, (2,)), ("dear",))
        for tree, number, wanted in [
            (right, 2, True), (right, 3, False), (right, 0, True), (right, True, False), (right, "2", False),
            (right, None, False), (((0, absent, (1,)), (0, absent, (2,)), ("dear",)), 2, False),
            (((0, absent, (2,)), ("dear",), (0, present, (1,))), 2, False),
            (((0, absent, ()), ("dear",)), 0, False), (((0, absent, (1, 2)), ("dear",), ("dear",)), 0, False),
            (((0, absent, (1,)), ("dear",)), 1, True), (((0, absent, (1,)), ("dear",), ("dear",)), 1, False),
            (((0, absent, (0,)),), 0, False), (((1, absent, (1,)), ("dear",)), 1, False),
            (((0, ("absent", (1,)), (1,)), ("dear",)), 1, False), (((0, ("absent", (False,)), (1,)), ("dear",)), 1, False),
            (((False, absent, (1,)), ("dear",)), 1, False), (((0, absent, (True,)), ("dear",)), 1, False),
            (((0, absent, [1]), ("dear",)), 1, False), (([0, absent, (1,)], ("dear",)), 1, False),
            ([(0, absent, (1,)), ("dear",)], 1, False), ((("dear",),), 0, True), ((("dear",),), 1, False),
            ((["dear"],), 0, False), (("dear",), 0, False), ((), 0, False), ((), -1, False), ((("dear", 0),), 0, False),
        ]:
            self.assertIs(is_joint_tree(S, ONE, [INN], number, tree), wanted, (tree, number))

    def test_each_node_is_a_child_once(self):
        """A node that is a child twice, of one node or of two, before its own node, or never."""
        present, inn = ("present", ("road", (0, 1))), ("present", ("inn", (1,)))
        questions = [A, OTHER]
        right = ((0, present, (1, 2)), (1, inn, (3,)), (1, inn, (4,)), ("dear",), ("dear",))
        self.assertIs(is_joint_tree(S, ONE, questions, 2, right), True)
        for wrong in [
            ((0, present, (1, 1)), (1, inn, (2,)), ("dear",)), ((0, present, (1, 1)), ("dear",)),
            ((0, present, (1, 2)), (1, inn, (3,)), (1, inn, (3,)), ("dear",)),
            ((0, present, (1, 2)), (1, inn, (2,)), ("dear",)), ((0, present, (1, 2)), (1, inn, (1,)), ("dear",)),
            ((0, present, (1, 2)), (1, inn, (0,)), ("dear",)), ((0, present, (2, 1)), (1, inn, (3,)), (1, inn, (1,)), ("dear",)),
            right + (("dear",),), (("dear",),) + right,
        ]:
            trial = oracle.Joint(P, questions, S.facts, ONE)
            self.assertFalse(trial.is_tree(1, wrong))
            for number in [2, 1, 0, -5]:
                self.assertIs(is_joint_tree(S, ONE, questions, number, wrong), False, wrong)

    def test_what_is_refused_is_no_child(self):
        """Behind the second child of a thread, the first look of it is refused."""
        road = (("town", (0,), ()), ("road", 0), ("town", None, ()))
        first, second = ("absent", (0, 0)), ("present", ("road", (0, 1)))
        right = ((0, first, (1, 2)), ("dear",), (0, second, (3,)), ("dear",))
        self.assertIs(is_joint_tree(S, ONE, [road], 1, right), True)
        wrong = ((0, first, (1, 2)), ("dear",), (0, second, (3, 4)), ("dear",), ("dear",))
        self.assertIs(is_joint_tree(S, ONE, [road], 1, wrong), False)
        free = {**ONE, ("road", 0, 0): 0}
        self.assertIs(is_joint_tree(S, free, [road], 0, right), False)
        self.assertEqual(joint_tree(S, free, [road]), (("dear",),))


class ErrorsTest(Checks):
    CALLS = [joint_price, joint_tree, lambda **given: is_joint_tree(**given, number=None, thing=None)]

    def test_any_value(self):
        for call in self.CALLS:
            for value in any_values():
                if not oracle.is_prices(P, value):
                    for questions in [[A], None, [None]]:
                        self.assert_error(BadPrices, {}, call, store=S, prices=value, questions=questions)
                self.assert_error(BadAsk, {}, call, store=S, prices=ONE, questions=value)
                self.assert_error(BadAsk, {}, call, store=S, prices=ONE, questions=[A, value, WEB])
            for value in [*variants(A), *variants(WEB)]:
                if not oracle.is_ask(P, value) and not oracle.is_web(P, value):
                    self.assert_error(BadAsk, {}, call, store=S, prices=ONE, questions=[value])
            for questions in [[], (), [A] * 5, A, WEB, {}, {A: 1}, [[A]], (A, (WEB,))]:
                self.assert_error(BadAsk, {}, call, store=S, prices=ONE, questions=questions)
        for many in [1, 2, 3, 4]:
            self.assertEqual(joint_price(S, ONE, [A] * many), joint_price(S, ONE, (WEB,) * many))

    def test_too_many_rows(self):
        plan = wide_plan([6, 6, 6, 6, 4, 1])
        small = wide_web(1)
        for call in self.CALLS:
            for prices in [{}, {look: 1 for look in looks(plan)}]:
                given = {"store": Store(plan), "prices": prices}
                for questions in [[wide_web()], [small, wide_web()], [wide_web(), small]]:
                    self.assert_error(TooMany, {"most": 5000}, call, **given, questions=questions)
                    self.assert_error(BadAsk, {}, call, **given, questions=[*questions, None])
                    self.assert_error(BadPrices, {}, call, store=Store(plan), prices={1: 1}, questions=questions)

    def test_5000_rows(self):
        plan = wide_plan([5, 5, 5, 5, 4, 2])
        store = Store(plan, list(facts(plan))[::3])
        prices = {look: 1 for look in looks(plan) if look[0] == "tef"}
        ask = (("a", None, ()), ("tab", 0), ("b", None, ()))
        self.assertEqual(len(oracle.rows(plan, wide_web())), 5000)
        self.assertIsNone(joint_price(store, prices, [ask, wide_web()]))
        free = {**prices, **{look: 0 for look in looks(plan) if look[0] != "tef"}}
        number, bought = joint_price(store, free, [wide_web(), ask])
        self.assertEqual(number, oracle.Joint(plan, [wide_web(), ask], store.facts, free).price)
        self.assertIs(settles_all(store, bought, [wide_web(), ask]), True)

    def test_more_than_twelve_looks(self):
        plan = Plan([("a", 6), ("b", 1)], [("r", ("a", "a")), ("s", ("b",)), ("t", ("a",))])
        store = Store(plan, [("r", (at, at)) for at in range(6)])
        dear = {look: 1 for look in looks(plan)}
        road, one, other = (("r", ("x", "y")),), (("s", ("x",)),), (("t", ("x",)),)
        self.assertEqual(joint_price(store, dear, [road])[0], 6)
        self.assertTrue(oracle.Joint(plan, [road], store.facts, dear).is_tree(6, joint_tree(store, dear, [road])))
        for call in self.CALLS:
            for questions in [[road, one], [one, road], [road, other, road], [one, other, (("b", None, ()),), road]]:
                self.assert_error(TooMany, {"most": 12}, call, store=store, prices=dear, questions=questions)
                self.assert_error(BadAsk, {}, call, store=store, prices=dear, questions=[*questions[:3], None])
        # Looks that cost 0, that are not for sale or at other tables do not count.
        for prices in [{**dear, ("s", 0, 0): 0}, {**dear, ("r", 1, 3): 0},
                       {look: 1 for look in dear if look != ("r", 0, 2)}]:
            self.assertIsNotNone(joint_price(store, prices, [road, one]))
        self.assertEqual(joint_price(store, dear, [one, other])[0], 7)


class PriceTest(Checks):
    def test_one_ask_alone(self):
        counts = [0, 0, 0]
        rng = random.Random(3)
        while min(counts) < 100:
            plan = random_plan(rng)
            store, prices, ask = random_store(rng, plan), random_prices(rng, plan), random_ask(rng, plan)
            if not are_few(prices, [ask]):
                continue
            number, found = price(store, prices, ask), joint_price(store, prices, [ask])
            self.assertEqual(number, None if found is None else found[0])
            self.assertEqual(joint_price(store, prices, [ask, ask]), found)
            if found is not None:
                self.assertEqual(list(found[1]), cheapest(store, prices, ask))
            web = web_of(plan, ask)
            if web is not None:
                self.assertEqual(joint_price(store, prices, [web]), found)
                self.assertEqual(joint_price(store, prices, [web, ask, web]), found)
            self.check_shares(rng, store, prices, ask, found)
            for at, counted in enumerate([number is None, number, web]):
                counts[at] += bool(counted)

    def check_shares(self, rng, store, prices, ask, found):
        """Asks that share out the values of one stop cost as much at once as the whole ask."""
        at = 2 * rng.randrange(len(ask) // 2 + 1)
        values = oracle.lots(store.plan, ask)[at // 2]
        hands = [rng.randrange(3) for _ in values]
        lots = [tuple(value for value, hand in zip(values, hands) if hand == wanted) for wanted in range(3)]
        asks = [replaced(ask, (at, 1), lot) for lot in lots if lot]
        shared = joint_price(store, prices, asks)
        self.assertEqual(None if found is None else found[0], None if shared is None else shared[0])

    def test_several_questions(self):
        """At least each and at most the sum, just the sum without common tables; there is one if each has one."""
        apart, together = 0, 0
        for rng, store, prices, questions, trial in random_cases(300, 4):
            found = joint_price(store, prices, questions)
            each = [joint_price(store, prices, [question]) for question in questions]
            self.assertIs(found is None, None in each)
            if found is None:
                continue
            numbers = [number for number, _ in each]
            self.assertTrue(max(numbers) <= found[0] <= sum(numbers))
            names = [name for question in questions for name in oracle.tables_of(question)]
            if len(set(names)) == len(names):
                apart += len(questions) > 1
                self.assertEqual(found[0], sum(numbers))
            together += found[0] < sum(numbers)
            order = rng.sample(questions, len(questions))
            self.assertEqual(joint_price(store, prices, order)[0], found[0])
        self.assertGreater(min(apart, together), 20)

    def test_determined_asks(self):
        """What disclosed answers determine is settled by the looks of their asks' joint price, and costs no more."""
        found, cheaper = 0, 0
        rng = random.Random(5)
        for _ in range(1500):
            plan = small_plan(rng, 7)
            store, prices = random_store(rng, plan), random_prices(rng, plan)
            asks = [random_ask(rng, plan) for _ in range(rng.randint(1, 4))]
            ask = random_ask(rng, plan)
            rows = determined(plan, [(other, tuple(answer(store, other))) for other in asks], ask)
            if rows is None or not are_few(prices, asks):
                continue
            joint = joint_price(store, prices, asks)
            self.assertEqual(rows, answer(store, ask))
            if joint is not None:
                found += bool(oracle.tables_of(ask))
                self.assertIs(settles(store, joint[1], ask), True)
                self.assertLessEqual(price(store, prices, ask), joint[0])
                numbers = [price(store, prices, other) for other in asks]
                self.assertLessEqual(joint[0], sum(numbers))
                cheaper += joint[0] < sum(numbers)
        self.assertGreater(min(found, cheaper), 50)

    def test_customers(self):
        """Asks one after the other cost between their joint price and their sum, with a shelf that settles them."""
        between = 0
        rng = random.Random(6)
        for _ in range(300):
            plan = small_plan(rng, 9)
            store, prices = random_store(rng, plan), random_prices(rng, plan)
            asks = [random_ask(rng, plan) for _ in range(rng.randint(1, 4))]
            if not are_few(prices, asks) or joint_price(store, prices, asks) is None:
                continue
            joint = joint_price(store, prices, asks)
            market = Market(store, prices)
            market.do(("buyer", "ann"))
            results = market.all_done([("sell", "ann", ask) for ask in asks])
            paid = sum(number for _, number in results)
            total = sum(price(store, prices, ask) for ask in asks)
            self.assertEqual(market.purse("ann"), paid)
            self.assertTrue(joint[0] <= paid <= total)
            between += joint[0] < paid or paid < total
            for ask in asks:
                self.assertIs(settles(store, market.shelf("ann"), ask), True)
                self.assertEqual(market.infers(ask, "ann"), answer(store, ask))
                self.assertEqual(market.price_for("ann", ask), 0)
            self.check_a_join(rng, store, prices, asks)
        self.assertGreater(between, 50)

    def check_a_join(self, rng, store, prices, asks):
        """Two who buy apart and then join pay as much as apart, and have the looks of both."""
        at = rng.randrange(len(asks) + 1)
        deeds = [("sell", "ann", ask) for ask in asks[:at]] + [("sell", "bob", ask) for ask in asks[at:]]
        market = Market(store, prices)
        market.all_done([("buyer", "ann"), ("buyer", "bob"), *deeds])
        alone = [Market(store, prices), Market(store, prices)]
        for other, name in zip(alone, ["ann", "bob"]):
            other.all_done([("buyer", name), *[deed for deed in deeds if deed[1] == name]])
            self.assertEqual((market.purse(name), market.shelf(name)), (other.purse(name), other.shelf(name)))
        market.do(("join", "bob", "ann"))
        every = sorted({*alone[0].shelf("ann"), *alone[1].shelf("bob")})
        for other, name in zip(alone, ["ann", "bob"]):
            self.assertEqual((market.purse(name), market.shelf(name)), (other.purse(name), every))
            for ask in asks:
                self.assertEqual(market.infers(ask, name), answer(store, ask))
                self.assertEqual(market.price_for(name, ask), 0)

    def test_a_web_without_a_load(self):
        """Three looks of which each two have a thread of their own cost 2, though no load is greater than 1."""
        plan = Plan([("a", 2)], [("r", ("a", "a")), ("s", ("a", "a")), ("t", ("a", "a"))])
        store = Store(plan, [("r", (1, 0)), ("s", (1, 0)), ("t", (1, 0))])
        prices = {(table, 0, value): 1 - value for table in "rst" for value in (0, 1)}
        web = (("r", ("x", "y")), ("s", ("y", "z")), ("t", ("z", "x")))
        bonds = oracle.threads(plan, web, store.facts)
        for row, pair in [((0, 0, 1), "rs"), ((0, 1, 0), "rt"), ((1, 0, 0), "st")]:
            self.assertEqual(bonds["absent", row] & set(prices), {(table, 0, 0) for table in pair})
        found = joint_price(store, prices, [web])
        self.assertEqual(found[0], 2)
        tree = joint_tree(store, prices, [web])
        self.assertIs(is_joint_tree(store, prices, [web], 2, tree), True)
        self.assertIs(is_joint_tree(store, prices, [web], 3, tree), False)
        self.assertTrue(oracle.Joint(plan, [web], store.facts, prices).is_tree(2, tree))


if __name__ == "__main__":
    import unittest
    unittest.main()
