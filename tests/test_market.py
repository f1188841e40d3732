"""A market, its deeds, and what customers infer (points 20 and 21, and (e) and (g) of point 2)."""

import random

import oracle
from asksold.asks import answer, is_ask
from asksold.errors import BadAsk, BadDeed, BadFact, BadLook, BadPrices, NoBuyer, NotForSale, TooMany
from asksold.market import Market, replayed
from asksold.plans import facts, is_fact, is_look, looks, sees
from asksold.prices import cheapest, is_prices, price
from asksold.samples import sample_ask, sample_plan, sample_prices, sample_store
from asksold.settling import settles
from asksold.stores import Store
from asksold.sure import reason_for, status
from cases import (
    any_values, greatest_asks, long_plan, random_ask, random_prices, random_store, small_asks, small_plan,
    the_same, too_great_asks, variants,
)
from checks import Checks, outcome
from shop import NAMES, Shop, is_form, random_deed, state_of
from shop import outcome as shop_outcome

INN = (("town", None, ("inn",)),)
ROAD = (("town", None, ()), ("road", 0), ("town", None, ()))
NOTHING = (("town", None, ()),)
A, ONE = sample_ask(), sample_prices()


def opened(deeds=(), prices=None):
    market = Market(sample_store(), ONE if prices is None else prices)
    market.all_done([("buyer", "ann"), ("buyer", "bob"), *deeds])
    return market


def sessions(many, seed, least=5, most=30, dearest=9):
    """Triples of a source of chance, a market on which some deeds were done, and the shop on which they were."""
    rng = random.Random(seed)
    while many > 0:
        plan = small_plan(rng, 6)
        if len(oracle.looks_by_trial(plan)) > dearest:
            continue
        many -= 1
        store, prices = random_store(rng, plan), random_prices(rng, plan)
        market, shop = Market(store, prices), Shop(plan, store.facts, prices)
        for _ in range(rng.randint(least, most)):
            deed = random_deed(rng, shop)
            if shop_outcome(shop.do, deed)[0] == "result":
                market.do(deed)
        yield rng, market, shop


def some_names(rng, market):
    """Some customers, in any order, at times one twice, at times none."""
    names = rng.sample(market.buyers, rng.randint(0, len(market.buyers)))
    return names + names[:1] if rng.random() < 0.3 else names


class ExamplesTest(Checks):
    def test_examples(self):
        market = Market(sample_store(), ONE)
        results = market.all_done([("buyer", "ann"), ("sell", "ann", A), ("buyer", "bob"), ("hand", "ann", "bob", 0)])
        found = [results[1], market.purse("ann"), market.price_for("ann", A), market.price_for("bob", A),
                 market.infers(A, "bob")]
        self.assertEqual(found, [([(0, 1)], 3), 3, 0, 3, [(0, 1)]])

    def test_parameters_by_name(self):
        market = Market(prices=ONE, store=sample_store())
        self.assertIsNone(market.do(deed=("buyer", "ann")))
        self.assertEqual(market.all_done(deeds=[("sell", "ann", A)]), [([(0, 1)], 3)])
        self.assertEqual(market.price_for(ask=A, name="ann"), 0)
        self.assertEqual(market.shelf(name="ann"), cheapest(sample_store(), ONE, A))
        self.assertEqual(market.heard(name="ann"), [(0, A, ((0, 1),))])
        self.assertEqual(market.purse(name="ann"), 3)
        self.assertIsNone(market.infers(ask=A))
        self.assertEqual(replayed(log=list(market.log()), prices=ONE, store=sample_store()), market)

    def test_a_new_market(self):
        market = Market(sample_store(), ONE)
        self.assert_the_same([market.store.facts, market.prices, market.time, market.buyers, list(market.log())],
                             [sample_store().facts, ONE, 0, [], []])
        self.assertEqual(market.store, sample_store())

    def test_wrong_prices(self):
        for value in [*any_values(), *[{("inn", 0, 0): value} for value in any_values()]]:
            if not oracle.is_prices(sample_plan(), value):
                self.assert_error(BadPrices, {}, Market, sample_store(), value)
                self.assert_error(BadPrices, {}, replayed, sample_store(), value, None)
                self.assert_error(BadPrices, {}, replayed, sample_store(), value, [])


class DeedsTest(Checks):
    def test_sessions(self):
        """All deeds of sessions by chance do what trying everything says that they do."""
        rng = random.Random(1)
        kinds = {}
        for _ in range(60):
            plan = small_plan(rng, 6)
            store, prices = random_store(rng, plan), random_prices(rng, plan)
            if len(oracle.looks_by_trial(plan)) > 9:
                continue
            market, shop = Market(store, prices), Shop(plan, store.facts, prices)
            for _ in range(rng.choice([4, 15, 40])):
                deed = random_deed(rng, shop)
                wanted = shop_outcome(shop.do, deed)
                self.assert_the_same(outcome(market.do, deed), wanted)
                self.assert_the_same(state_of(market), shop.state())
                self.assert_the_same(market.buyers, sorted(shop.people))
                kinds[deed[0], wanted[0]] = kinds.get((deed[0], wanted[0]), 0) + 1
                self.check_questions(rng, market, shop)
        self.assertGreater(min(kinds[word, "result"] for word in ["sell", "hand", "join", "come", "go", "undo"]), 10)
        self.assertGreater(kinds["sell", "NotForSale"], 10)

    def check_questions(self, rng, market, shop):
        ask = random_ask(rng, shop.plan)
        for name in [*market.buyers, "nobody"]:
            self.assert_the_same(outcome(market.price_for, name, ask), shop_outcome(shop.price_for, name, ask))
        names = some_names(rng, market)
        self.assert_the_same(outcome(market.infers, ask, *names), shop_outcome(shop.infers, ask, *names))

    def test_wrong_deeds(self):
        """With one place of a deed replaced by any value, it fails as point 20 says, or does the same."""
        deeds = [
            ("buyer", "cid"), ("sell", "ann", A), ("hand", "ann", "bob", 0), ("join", "ann", "bob"),
            ("price", ("inn", 0, 1), 5), ("come", ("inn", (0,))), ("go", ("road", (0, 1))), ("undo",),
        ]
        done = [("buyer", "ann"), ("buyer", "bob"), ("sell", "ann", A), ("sell", "bob", INN)]
        market, shop = Market(sample_store(), ONE), Shop(sample_plan(), sample_store().facts, ONE)
        for deed in done:
            self.assert_the_same(market.do(deed), shop.do(deed))
        before, state = market.twin(), shop.state()
        failed = 0
        for deed in deeds:
            for other in [*variants(deed), deed[:-1], (*deed, 0), list(deed), deed * 2]:
                wanted = shop_outcome(shop.do, other)
                self.assert_the_same(outcome(market.do, other), wanted)
                if wanted[0] != "result":
                    failed += 1
                    self.assertEqual(market, before)
                else:
                    self.assert_the_same(state_of(market), shop.state())
                    if other != ("undo",):
                        market.do(("undo",))
                        shop.do(("undo",))
                    else:
                        market.do(done[-1])
                        shop.do(done[-1])
                    self.assertEqual(market, before)
        self.assert_the_same(shop.state(), state)
        self.assertGreater(failed, 5000)

    def test_the_error_of_the_first_wrong_part(self):
        market = opened([("sell", "ann", A)])
        before = market.twin()
        plan, names, wrong = sample_plan(), ["ann", "bob"], any_values()
        not_names = [value for value in wrong if value not in names]
        not_asks = [value for value in wrong if not is_ask(plan, value)]
        rng = random.Random(2)
        for _ in range(600):
            name, ask = rng.choice(not_names), rng.choice(not_asks)
            other, k = rng.choice(not_names), rng.choice([value for value in wrong if not the_same(value, 0)])
            look = rng.choice([value for value in wrong if not is_look(plan, value)])
            number = rng.choice([value for value in wrong if value is not None and not is_prices(plan, {("inn", 0, 0): value})])
            fact = rng.choice([value for value in wrong if not is_fact(plan, value)])
            for deed, kind, attributes in [
                (("sell", name, ask), NoBuyer, {"name": name}), (("sell", "ann", ask), BadAsk, {}),
                (("hand", name, other, k), NoBuyer, {"name": name}), (("hand", "ann", other, k), NoBuyer, {"name": other}),
                (("hand", "ann", "bob", k), BadDeed, {"at": 0}), (("join", name, other), NoBuyer, {"name": name}),
                (("join", "ann", other), NoBuyer, {"name": other}), (("price", look, number), BadLook, {"at": 0}),
                (("price", ("inn", 0, 0), number), BadPrices, {}), (("come", fact), BadFact, {}),
                (("go", fact), BadFact, {}), (("buyer", name), NoBuyer, {"name": name}),
            ]:
                if deed[0] == "buyer" and oracle.is_name(name):
                    continue
                self.assert_error(kind, attributes, market.do, deed)
        self.assertEqual(market, before)

    def test_a_customer_already(self):
        market = opened()
        self.assert_error(NoBuyer, {"name": "ann"}, market.do, ("buyer", "ann"))
        for name in ["", "abcdefghi", "Ann", "ann ", "an1", None, 3, True, ["ann"], ("ann",), {}]:
            self.assert_error(NoBuyer, {"name": name}, market.do, ("buyer", name))
        market.do(("buyer", "abcdefgh"))
        self.assertEqual(market.buyers, ["abcdefgh", "ann", "bob"])

    def test_facts_that_are_there_or_not(self):
        market = opened()
        self.assert_error(BadDeed, {"at": 0}, market.do, ("come", ("inn", (1,))))
        self.assert_error(BadDeed, {"at": 0}, market.do, ("go", ("inn", (0,))))
        market.all_done([("go", ("inn", (1,))), ("come", ("inn", (0,)))])
        self.assertEqual((market.store.facts, market.time), ((("inn", (0,)), ("road", (0, 1))), 2))

    def test_hands(self):
        market = opened([("sell", "ann", A), ("sell", "ann", INN)])
        for k in [2, -1, True, False, None, "0", (0,), 10 ** 39]:
            self.assert_error(BadDeed, {"at": 0}, market.do, ("hand", "ann", "bob", k))
        self.assert_error(BadDeed, {"at": 0}, market.do, ("hand", "bob", "ann", 0))
        market.all_done([("hand", "ann", "bob", 1), ("hand", "ann", "bob", 0), ("hand", "ann", "bob", 1)])
        self.assertEqual(market.heard("bob"), market.heard("ann")[::-1])
        self.assertEqual((market.shelf("bob"), market.purse("bob")), ([], 0))
        before = state_of(market)[:4]
        market.all_done([("hand", "ann", "ann", 0), ("hand", "ann", "bob", 1), ("join", "bob", "bob")])
        self.assertEqual(state_of(market)[:4], before)

    def test_a_join_keeps_the_order_of_the_first(self):
        deeds = [("sell", "ann", A), ("sell", "ann", INN), ("sell", "bob", ROAD), ("sell", "bob", A)]
        items = [(0, A, ((0, 1),)), (0, INN, ((1,),)), (0, ROAD, ((0, 1),))]
        for names, order in [(("ann", "bob"), [0, 1, 2]), (("bob", "ann"), [2, 0, 1])]:
            market = opened(deeds)
            purses = [market.purse("ann"), market.purse("bob")]
            every = sorted({*market.shelf("ann"), *market.shelf("bob")})
            market.do(("join", *names))
            for name in names:
                self.assertEqual(market.heard(name), [items[at] for at in order])
                self.assertEqual(market.shelf(name), every)
            self.assertEqual([market.purse("ann"), market.purse("bob")], purses)

    def test_the_same_answer_at_another_time_is_another_item(self):
        market = opened([("sell", "ann", A), ("sell", "ann", A), ("come", ("inn", (0,))), ("sell", "ann", A)])
        self.assertEqual(market.heard("ann"), [(0, A, ((0, 1),)), (1, A, ((0, 1),))])

    def test_a_sale_of_what_needs_nothing(self):
        market = opened(prices={})
        self.assert_the_same(market.do(("sell", "ann", NOTHING)), ([(0,), (1,)], 0))
        self.assertEqual(market.heard("ann"), [(0, NOTHING, ((0,), (1,)))])
        self.assert_error(NotForSale, {"thread": ("absent", (0,))}, market.do, ("sell", "ann", INN))

    def test_looks_for_nothing_go_onto_the_shelf(self):
        prices = {**ONE, ("road", 0, 0): 0, ("inn", 0, 1): 0}
        market = opened([("sell", "ann", A)], prices)
        self.assertEqual(market.shelf("ann"), cheapest(sample_store(), prices, A))
        self.assertLess({("road", 0, 0), ("inn", 0, 1)}, set(market.shelf("ann")))

    def test_a_look_on_the_shelf_that_is_no_longer_for_sale(self):
        market = opened([("sell", "ann", INN), ("price", ("inn", 0, 0), None), ("price", ("inn", 0, 1), 10 ** 6)])
        self.assertEqual(market.price_for("ann", INN), 0)
        self.assertIsNone(market.price_for("bob", INN))
        self.assertEqual(market.do(("sell", "ann", INN)), ([(1,)], 0))
        self.assert_error(NotForSale, {"thread": ("absent", (0,))}, market.do, ("sell", "bob", INN))
        market.do(("come", ("inn", (0,))))
        self.assertEqual(market.shelf("ann"), [("inn", 0, 1)])
        self.assertIsNone(market.price_for("ann", INN))

    def test_prices_of_0_and_the_most(self):
        market = opened([("price", ("inn", 0, 0), 0), ("price", ("inn", 0, 1), 10 ** 6)])
        self.assertEqual(market.price_for("ann", INN), 10 ** 6)
        for number in [10 ** 6 + 1, -1, True, False, "1", (), [], {}]:
            self.assert_error(BadPrices, {}, market.do, ("price", ("inn", 0, 0), number))
        market.do(("price", ("inn", 0, 1), None))
        market.do(("price", ("inn", 0, 1), None))
        self.assertEqual(market.prices, {look: number for look, number in {**ONE, ("inn", 0, 0): 0}.items()
                                         if look != ("inn", 0, 1)})

    def test_great_asks(self):
        plan = long_plan()
        rng = random.Random(3)
        store = Store(plan, [fact for fact in facts(plan) if rng.random() < 0.5])
        market = Market(store, {look: 7 for look in looks(plan)})
        market.do(("buyer", "ann"))
        for ask in too_great_asks():
            self.assert_error(TooMany, {"most": 5000}, market.do, ("sell", "ann", ask))
            self.assert_error(TooMany, {"most": 5000}, market.price_for, "ann", ask)
            self.assert_error(TooMany, {"most": 5000}, market.infers, ask, "nobody")
            self.assert_error(NoBuyer, {"name": "nobody"}, market.do, ("sell", "nobody", ask))
        ask = greatest_asks()[1]
        self.assertEqual(market.do(("sell", "ann", ask)), (answer(store, ask), price(store, market.prices, ask)))
        self.assertEqual(market.infers(ask, "ann"), answer(store, ask))


class ReadersTest(Checks):
    def test_any_value_as_name(self):
        market = opened([("sell", "ann", A)])
        for value in any_values():
            for call in [market.shelf, market.heard, market.purse]:
                self.assert_error(NoBuyer, {"name": value}, call, value)
            self.assert_error(NoBuyer, {"name": value}, market.price_for, value, A)
            self.assert_error(NoBuyer, {"name": value}, market.price_for, value, value)
            self.assert_error(NoBuyer, {"name": value}, market.infers, A, value)
            self.assert_error(NoBuyer, {"name": value}, market.infers, A, "ann", value, "nobody")

    def test_any_value_as_ask(self):
        market = opened()
        for value in [*any_values(), *variants(A)]:
            if not oracle.is_ask(sample_plan(), value):
                self.assert_error(BadAsk, {}, market.price_for, "ann", value)
                self.assert_error(BadAsk, {}, market.infers, value)
                self.assert_error(BadAsk, {}, market.infers, value, "nobody")

    def test_what_is_returned_is_new(self):
        market = opened([("sell", "ann", A)])
        before = market.twin()
        result = market.all_done([("sell", "bob", A)])[0]
        market.do(("undo",))
        for found in [result[0], market.prices, market.buyers, market.shelf("ann"), market.heard("ann"),
                      market.infers(A, "ann"), market.all_done([])]:
            found.clear()
        self.assertEqual(market, before)
        self.assertEqual(state_of(market), state_of(before))
        self.assertEqual(market.infers(A, "ann"), [(0, 1)])

    def test_the_log_is_that_of_its_first_item(self):
        market = opened()
        log = market.log()
        self.assertEqual(next(log), ("buyer", "ann"))
        market.do(("undo",))
        market.do(("come", ("inn", (0,))))
        self.assertEqual(list(log), [("buyer", "bob")])
        self.assertEqual(list(market.log()), [("buyer", "ann"), ("come", ("inn", (0,)))])


class UndoTest(Checks):
    def test_every_kind_of_deed(self):
        deeds = [
            ("buyer", "cid"), ("sell", "bob", ROAD), ("hand", "ann", "bob", 0), ("hand", "ann", "ann", 0),
            ("join", "ann", "bob"), ("join", "ann", "ann"), ("price", ("inn", 0, 1), 5), ("price", ("inn", 0, 1), None),
            ("come", ("inn", (0,))), ("go", ("road", (0, 1))), ("sell", "ann", A), ("sell", "bob", NOTHING),
        ]
        market = opened([("sell", "ann", A)])
        before, state = market.twin(), state_of(market)
        for deed in deeds:
            market.do(deed)
            self.assertNotEqual(market, before)
            self.assertIsNone(market.do(("undo",)))
            self.assertEqual(market, before)
            self.assert_the_same(state_of(market), state)

    def test_down_to_the_beginning(self):
        for rng, market, shop in sessions(25, 4):
            market = Market(Store(shop.plan, shop.present), shop.prices)
            markets = [market.twin()]
            for _ in range(25):
                deed = random_deed(rng, shop)
                if deed != ("undo",) and outcome(market.do, deed)[0] == "result":
                    markets.append(market.twin())
            inferred = [[other.infers(ask, *other.buyers) for ask in [random_ask(random.Random(5), shop.plan)]]
                        for other in markets]
            for at in range(len(markets) - 2, -1, -1):
                market.do(("undo",))
                self.assertEqual(market, markets[at])
                self.assert_the_same(state_of(market), state_of(markets[at]))
                self.assertEqual(len(list(market.log())), at)
                ask = random_ask(random.Random(5), shop.plan)
                self.assertEqual([market.infers(ask, *market.buyers)], inferred[at])
            self.assert_error(BadDeed, {"at": 0}, market.do, ("undo",))
            self.assert_error(BadDeed, {"at": 0}, market.all_done, [("undo",)])
            self.assertEqual(market, markets[0])

    def test_a_twin_undoes_alone(self):
        market = opened([("sell", "ann", A)])
        before, twin = state_of(market), market.twin()
        for many in [2, 1, 0]:
            twin.do(("undo",))
            self.assertEqual(len(list(twin.log())), many)
        self.assert_error(BadDeed, {"at": 0}, twin.do, ("undo",))
        self.assertEqual(twin, Market(sample_store(), ONE))
        self.assert_the_same(state_of(market), before)
        other = market.twin()
        market.do(("undo",))
        self.assert_the_same(state_of(other), before)

    def test_a_failed_deed_is_not_undone(self):
        market = opened([("sell", "ann", A)])
        for deed in [("buyer", "ann"), ("sell", "ann", None), ("go", ("inn", (0,))), ("hand", "bob", "ann", 0), None]:
            self.assertNotEqual(outcome(market.do, deed)[0], "result")
        market.do(("undo",))
        self.assertEqual(market, opened())

    def test_what_was_passed_may_change(self):
        prices, deeds = dict(ONE), [("buyer", "ann"), ("price", ("inn", 0, 0), 5), ("sell", "ann", INN)]
        market = Market(sample_store(), prices)
        market.all_done(deeds)
        prices.clear()
        deeds.clear()
        self.assertEqual(market.purse("ann"), 5 + 1)
        for _ in range(3):
            market.do(("undo",))
        self.assertEqual(market.prices, ONE)
        self.assertEqual(market, Market(sample_store(), ONE))


class AllDoneTest(Checks):
    def test_sessions(self):
        """Lists of deeds, with failing ones among them, are done as one after the other, or not at all."""
        counts = {True: 0, False: 0}
        for rng, market, shop in sessions(60, 6, 0, 12):
            twin = Shop(shop.plan, shop.present, shop.prices)
            market = Market(Store(shop.plan, shop.present), shop.prices)
            for deed in [("buyer", "ann"), ("sell", "ann", random_ask(rng, shop.plan))]:
                self.assertEqual(outcome(market.do, deed)[0], shop_outcome(twin.do, deed)[0])
            before, log = market.twin(), list(market.log())
            deeds, results, failure = [], [], None
            for _ in range(rng.randint(0, 8)):
                deeds.append(random_deed(rng, twin))
                if failure is None:
                    found = shop_outcome(twin.do, deeds[-1])
                    results.append(found[1])
                    failure = None if found[0] == "result" else found
            for given in [list(deeds), tuple(deeds)]:
                market = before.twin()
                self.assert_the_same(outcome(market.all_done, given), ("result", results) if failure is None else failure)
                self.assertEqual(list(given), deeds)
                if failure is None:
                    self.assert_the_same(state_of(market), twin.state())
                else:
                    self.assertEqual(market, before)
                    self.assertEqual(list(market.log()), log)
            counts[failure is None] += 1
        self.assertGreater(min(counts.values()), 10)

    def test_an_undo_that_took_back_an_earlier_deed(self):
        market = opened([("sell", "ann", A)])
        before = market.twin()
        for deeds in [
            [("undo",), ("undo",), ("buyer", "ann")], [("undo",), ("undo",), ("undo",), ("undo",)],
            [("undo",), ("buyer", "cid"), ("sell", "cid", None)], [("undo",), ("hand", "ann", "bob", 0)],
        ]:
            self.assertNotEqual(outcome(market.all_done, deeds)[0], "result")
            self.assertEqual(market, before)
            self.assert_the_same(state_of(market), state_of(before))
        twin = market.twin()
        for wanted in [opened(), Market(sample_store(), ONE)]:
            twin.do(("undo",))
            if wanted.buyers:
                self.assertEqual(twin, wanted)
        self.assertEqual(market.all_done([("undo",), ("undo",), ("buyer", "cid")]), [None, None, None])
        self.assertEqual(market.buyers, ["ann", "cid"])

    def test_values_that_are_no_deeds(self):
        market = opened()
        before = market.twin()
        for value in any_values():
            if is_form(value):
                continue
            if type(value) not in (list, tuple):
                self.assert_error(BadDeed, {"at": 0}, market.all_done, value)
            for deeds, at in [([value], 0), ([("buyer", "cid"), value], 1), ((("undo",), ("undo",), value, None), 2),
                              ([("buyer", "ann"), ("undo", 0), value], 1)]:
                self.assert_error(BadDeed, {"at": at}, market.all_done, deeds)
            self.assertEqual(market, before)
        self.assert_error(BadDeed, {"at": 2}, market.all_done, [("sell", "bob", None), ("go", None), ("gone", None)])
        self.assert_error(BadAsk, {}, market.all_done, [("sell", "bob", None), ("go", None)])
        self.assert_error(BadDeed, {"at": 0}, market.all_done, [("buyer", "cid"), ("hand", "cid", "cid", 0)])
        self.assert_error(BadDeed, {"at": 0}, market.all_done, ("undo",))
        for nothing in [[], ()]:
            self.assert_the_same(market.all_done(nothing), [])
        self.assertEqual(market, before)


class ReplayedTest(Checks):
    def test_sessions(self):
        for rng, market, shop in sessions(60, 7):
            log = list(market.log())
            self.assertEqual(log, shop.log)
            start = market.twin()
            for _ in log:
                start.do(("undo",))
            for given in [log, tuple(log)]:
                other = replayed(start.store, start.prices, given)
                self.assertEqual(other, market)
                self.assert_the_same(state_of(other), state_of(market))
            more = [("buyer", "zoe"), *log, ("undo",)]
            self.assertEqual(list(replayed(start.store, start.prices, more).log()), more[:-1][:len(log)])

    def test_the_first_deed_that_fails(self):
        deeds = [("buyer", "ann"), ("sell", "ann", A), ("undo",), ("sell", "ann", INN)]
        for at in range(5):
            for value in [*any_values(), ("buyer", "ann"), ("sell", "bob", A), ("go", ("inn", (0,))), ("undo", 1)]:
                if at > 0 or not is_form(value) or value == ("sell", "bob", A):
                    with self.subTest(at=at, value=value):
                        wrong = [*deeds[:at], value, ("undo",), None]
                        self.assert_error(BadDeed, {"at": at}, replayed, sample_store(), ONE, wrong)
        for value in any_values():
            if type(value) not in (list, tuple):
                self.assert_error(BadDeed, {"at": 0}, replayed, sample_store(), ONE, value)
        self.assert_error(BadDeed, {"at": 0}, replayed, sample_store(), ONE, [("undo",)])
        self.assertEqual(replayed(sample_store(), ONE, []), Market(sample_store(), ONE))


class EqualTest(Checks):
    def test_different_markets(self):
        """Markets that differ in one of the parts that count, and others that were led there by other ways."""
        deeds = [("sell", "ann", A), ("hand", "ann", "bob", 0)]
        market = opened(deeds)
        different = [
            opened(deeds, {**ONE, ("inn", 0, 0): 2}), opened(deeds[:1]), opened([*deeds, ("buyer", "cid")]),
            opened([*deeds, ("hand", "ann", "ann", 0)]), opened([*deeds, ("price", ("inn", 0, 0), 1)]),
            opened([*deeds, ("come", ("inn", (0,)))]), opened([*deeds, ("come", ("inn", (0,))), ("go", ("inn", (0,)))]),
            opened([deeds[0], ("hand", "ann", "bob", 0), ("undo",), ("join", "ann", "bob")]),
            opened([("sell", "bob", A), ("hand", "bob", "ann", 0)]), Market(sample_store(), ONE),
        ]
        for other in different:
            self.assertFalse(market == other)
            self.assertTrue(market != other)
        self.assertTrue(market == opened([*deeds, ("buyer", "cid"), ("undo",)]))
        self.assertFalse(market != opened([("sell", "ann", INN), ("undo",), *deeds]))

    def test_one_part_alone(self):
        """The same log led to markets that differ in one part each."""
        log = [("buyer", "ann"), ("sell", "ann", NOTHING)]
        store = sample_store()
        for one, other in [
            ((store, ONE), (store, {**ONE, ("road", 0, 0): 2})),
            ((store, ONE), (store.with_facts(("inn", (0,))), ONE)),
        ]:
            self.assertNotEqual(replayed(*one, log), replayed(*other, log))
        deeds = [("buyer", "ann"), ("sell", "ann", INN), ("price", ("inn", 0, 1), 1)]
        dear = {**ONE, ("inn", 0, 1): 3}
        self.assertNotEqual(replayed(store, ONE, deeds), replayed(store, dear, deeds))
        # Here only the shelves differ: the same is paid, for another look.
        one = {("road", 0, 0): 1, ("road", 0, 1): 1, ("road", 1, 0): 1, ("road", 1, 1): 1}
        shift = [("price", ("road", 1, 0), None), ("price", ("road", 1, 1), None),
                 ("price", ("road", 0, 0), 1), ("price", ("road", 0, 1), 1)]
        deeds = [("buyer", "ann"), ("sell", "ann", ROAD), *shift]
        rows = [replayed(store, prices, deeds) for prices in
                [{look: number for look, number in one.items() if look[1] == side} for side in (0, 1)]]
        self.assertEqual(*[(market.prices, market.purse("ann"), market.heard("ann")) for market in rows])
        self.assertNotEqual(rows[0].shelf("ann"), rows[1].shelf("ann"))
        self.assertNotEqual(*rows)
        # Here only what was heard differs.
        deeds = [("buyer", "ann"), ("sell", "ann", INN), ("go", ("inn", (0,)))]
        markets = [replayed(store, uniform, deeds) for store, uniform in [
            (Store(sample_plan(), [("inn", (0,)), ("inn", (1,))]), ONE), (Store(sample_plan(), [("inn", (0,))]), ONE)]]
        self.assertNotEqual(*markets)

    def test_another_beginning_alone(self):
        deeds = [("price", ("inn", 0, 0), 5), ("price", ("inn", 0, 1), None)]
        one = replayed(sample_store(), ONE, deeds)
        other = replayed(sample_store(), {**ONE, ("inn", 0, 0): 9, ("inn", 0, 1): 0}, deeds)
        self.assertTrue(one == other)
        one.do(("undo",))
        other.do(("undo",))
        self.assertFalse(one == other)

    def test_a_market_equals_nothing_else(self):
        market = opened()
        for value in [*any_values(), sample_plan(), sample_store(), ONE, list(market.log())]:
            self.assertFalse(market == value)
            self.assertTrue(market != value)

    def test_twins(self):
        for rng, market, shop in sessions(30, 8):
            twin = market.twin()
            self.assertEqual(twin, market)
            self.assert_the_same(state_of(twin), state_of(market))
            before = state_of(market)
            for _ in range(8):
                outcome(twin.do, random_deed(rng, shop))
            twin.do(("buyer", "zoe"))
            self.assert_the_same(state_of(market), before)
            self.assertNotEqual(twin, market)
            after = state_of(twin)
            for _ in range(8):
                outcome(market.do, random_deed(rng, shop))
            self.assert_the_same(state_of(twin), after)


class InferenceTest(Checks):
    def test_what_is_inferred_was_paid_for(self):
        """Point 2 (e): what customers infer is right, is settled by all shelves, and costs nothing with them."""
        found = 0
        for rng, market, shop in sessions(120, 9, 10, 35):
            shelves = sorted({look for name in market.buyers for look in market.shelf(name)})
            for _ in range(6):
                ask, names = random_ask(rng, shop.plan), some_names(rng, market)
                rows = market.infers(ask, *names)
                if rows is not None:
                    found += len(ask) > 1 and bool(rows)
                    self.assertEqual(rows, answer(market.store, ask))
                    self.assertIs(settles(market.store, shelves, ask), True)
                    self.assertEqual(price(market.store, market.prices, ask, shelf=shelves), 0)
                    self.assertEqual(market.infers(ask, *market.buyers), rows)
                    self.assertEqual(market.infers(ask, *market.buyers[::-1], *names), rows)
        self.assertGreater(found, 30)

    def test_what_one_customer_is_sure_of(self):
        words = []
        for rng, market, shop in sessions(120, 10, 10, 35):
            shelves = {look for name in market.buyers for look in market.shelf(name)}
            for name in market.buyers:
                told = [(ask, rows) for time, ask, rows in market.heard(name) if time == market.time]
                for fact in facts(shop.plan):
                    word = status(shop.plan, told, fact)
                    words.append(word)
                    if word != "open":
                        self.assertIs(market.store.has(fact), word == "present")
                        self.assertTrue([look for look in shelves if sees(look, fact)])
                        at, row = reason_for(shop.plan, told, fact)
                        self.assertEqual(row in told[at][1], word == "present")
        self.assertGreater(min(words.count(word) for word in ["present", "absent", "open"]), 50)

    def test_without_customers_nothing_is_known(self):
        market = opened([("sell", "ann", A)])
        for ask in small_asks():
            wanted = answer(market.store, ask) if not oracle.tables_of(ask) else None
            self.assertEqual(market.infers(ask), wanted)
            self.assertEqual(market.infers(ask, "bob"), wanted)
            self.assertEqual(market.infers(ask, "bob", "bob"), wanted)
        self.assertEqual(market.infers(A, "bob", "ann", "bob"), [(0, 1)])

    def test_other_times_do_not_count(self):
        """Right after a fact came or went, no ask that names a table is determined; undone, all is as before."""
        for rng, market, shop in sessions(60, 11, 10, 30):
            asks = [random_ask(rng, shop.plan) for _ in range(4)]
            before = [market.infers(ask, *market.buyers) for ask in asks]
            twin = market.twin()
            for fact in facts(shop.plan):
                shelves = {name: market.shelf(name) for name in market.buyers}
                market.do(("go" if market.store.has(fact) else "come", fact))
                for name in market.buyers:
                    self.assertEqual(market.shelf(name), [look for look in shelves[name] if not sees(look, fact)])
                    self.assertEqual(market.heard(name), twin.heard(name))
                    self.assertEqual(market.purse(name), twin.purse(name))
                self.assertEqual((market.time, market.prices), (twin.time + 1, twin.prices))
                for ask in asks:
                    if oracle.tables_of(ask):
                        self.assertIsNone(market.infers(ask, *market.buyers))
                    else:
                        self.assertEqual(market.infers(ask), answer(market.store, ask))
                market.do(("undo",))
                self.assertEqual(market, twin)
            self.assertEqual([market.infers(ask, *market.buyers) for ask in asks], before)


class SaleTest(Checks):
    def test_a_sale_costs_what_was_said_before(self):
        sold = 0
        for rng, market, shop in sessions(80, 12, 5, 25):
            market.all_done([("buyer", name) for name in NAMES if name not in market.buyers])
            for name in market.buyers:
                ask = random_ask(rng, shop.plan)
                asks = [random_ask(rng, shop.plan) for _ in range(4)]
                before = [market.price_for(other, each) for other in market.buyers for each in asks]
                number, purse, shelf = market.price_for(name, ask), market.purse(name), market.shelf(name)
                if number is None:
                    bonds = oracle.threads(shop.plan, ask, market.store.facts)
                    thread = min(thread for thread, those in bonds.items()
                                 if not any(look in shelf or look in market.prices for look in those))
                    self.assert_error(NotForSale, {"thread": thread}, market.do, ("sell", name, ask))
                    continue
                sold += 1
                basket = cheapest(market.store, market.prices, ask, shelf=shelf)
                result = market.do(("sell", name, ask))
                self.assert_the_same(result, (answer(market.store, ask), number))
                self.assertEqual(market.purse(name), purse + number)
                self.assertEqual(market.shelf(name), sorted([*shelf, *basket]))
                self.assertEqual(market.price_for(name, ask), 0)
                after = [market.price_for(other, each) for other in market.buyers for each in asks]
                for one, other in zip(before, after):
                    self.assertTrue(one is None or other is not None and other <= one)
        self.assertGreater(sold, 80)

    def test_looks_at_other_tables_do_not_matter(self):
        market = opened([("price", ("inn", 0, 0), 0)])
        market.do(("sell", "ann", ROAD))
        self.assertTrue(all(look[0] == "road" for look in market.shelf("ann")))


if __name__ == "__main__":
    import unittest
    unittest.main()
