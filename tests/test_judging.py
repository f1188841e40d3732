"""Stories, the checker of stories, and what customers conclude (points 21 and 22, and (g) of point 2)."""

import copy
import random

import oracle
from asksold.asks import answer
from asksold.errors import BadAsk, BadStory, NoBuyer, TooMany
from asksold.judging import concludes, first_wrong, story_of
from asksold.market import Market, replayed
from asksold.plans import facts, looks
from asksold.prices import load, price, shows, uniform
from asksold.samples import sample_ask, sample_plan, sample_prices, sample_store
from asksold.stores import Store
from cases import (
    any_values, long_plan, places, random_ask, random_prices, random_store, replaced, shuffled, small_plan,
    the_same, too_great_asks, variants,
)
from checks import Checks
from shop import Shop, first_wrong as first_wrong_by_trial, outcome as shop_outcome, random_deed, state_of
from test_market import some_names

INN = (("town", None, ("inn",)),)
NOTHING = (("town", None, ()),)
P, S, A, ONE = sample_plan(), sample_store(), sample_ask(), sample_prices()
BEGIN = ("begin", (("town", 2),), (("inn", ("town",)), ("road", ("town", "town"))),
         (("inn", (1,)), ("road", (0, 1))), tuple((look, 1) for look in looks(P)))
DEEDS = [
    ("buyer", "ann"), ("sell", "ann", A), ("buyer", "bob"), ("hand", "ann", "bob", 0), ("price", ("inn", 0, 0), 4),
    ("price", ("road", 0, 1), None), ("sell", "bob", INN), ("join", "bob", "ann"), ("come", ("inn", (0,))),
    ("sell", "ann", INN), ("go", ("road", (0, 1))), ("sell", "bob", NOTHING),
]


def at_place(thing, place):
    for index in place:
        thing = thing[index]
    return thing


def story_p():
    return story_of(replayed(S, ONE, DEEDS))


def random_markets(many, seed, longest=20):
    """Tuples of a source of chance, a market, the shop on which the same was done, and the facts and prices before."""
    rng = random.Random(seed)
    while many > 0:
        plan = small_plan(rng, 6)
        if len(oracle.looks_by_trial(plan)) > 9:
            continue
        many -= 1
        store, prices = random_store(rng, plan), random_prices(rng, plan)
        market, shop = Market(store, prices), Shop(plan, store.facts, prices)
        for _ in range(rng.randint(0, longest)):
            deed = random_deed(rng, shop)
            if shop_outcome(shop.do, deed)[0] == "result":
                market.do(deed)
        yield rng, market, shop, (store, prices)


def turned(value):
    """Values that are nearly the same as this one: nested, doubled, reversed, with bools for numbers."""
    found = [[value], (value,), {"a": value}]
    if type(value) is int:
        found.extend([value + 1, value - 1, -value, str(value), None, value == 1])
    if type(value) is str:
        found.extend([value + "a", value[:-1], value.upper(), [value], None])
    if isinstance(value, tuple):
        found.extend([value[::-1], value + value, value[1:], value[:-1], list(value), value + value[-1:], ()])
        if len(value) > 1:
            found.append((value[1], value[0], *value[2:]))
    return found


class StoryTest(Checks):
    def test_stories(self):
        """The beginning, the deeds that stand, their results, and for each sale the basket with a load."""
        sales = 0
        for rng, market, shop, (store, prices) in random_markets(120, 1):
            before = state_of(market)
            story = story_of(market)
            self.assertIs(type(story), list)
            self.assert_the_same(state_of(market), before)
            plan = store.plan
            begin = ("begin", plan.columns, plan.tables, store.facts, tuple(sorted(prices.items())))
            self.assert_the_same(story[0], begin)
            self.assert_the_same([row[0] for row in story[1:]], shop.log)
            trial = Shop(plan, store.facts, prices)
            for deed, result, certificate in story[1:]:
                if deed[0] != "sell":
                    trial.do(deed)
                    self.assertEqual((result, certificate), (None, None))
                    continue
                sales += 1
                shelf = sorted(trial.people[deed[1]].shelf)
                offer = oracle.Offer(plan, deed[2], trial.present, trial.prices, shelf)
                self.assert_the_same(certificate[0], tuple(offer.basket()))
                there = Store(plan, trial.present)
                self.assertIs(shows(there, trial.prices, deed[2], result[1], *certificate, shelf=shelf), True)
                rows, number = trial.do(deed)
                self.assert_the_same(result, (tuple(rows), number))
        self.assertGreater(sales, 300)

    def test_a_story_of_the_plan_p(self):
        story = story_p()
        self.assert_the_same(story[0], BEGIN)
        self.assert_the_same(story[1], (("buyer", "ann"), None, None))
        deed, result, (bought, shown) = story[2]
        self.assert_the_same((deed, result, bought), (("sell", "ann", A), (((0, 1),), 3), (
            ("inn", 0, 0), ("inn", 0, 1), ("road", 1, 1))))
        self.assertEqual(sum(number for _, number in shown), 3)
        self.assertEqual([row[0] for row in story[1:]], DEEDS)
        self.assert_the_same(story[-1], (("sell", "bob", NOTHING), (((0,), (1,)), 0), ((), ())))

    def test_the_same_story(self):
        for rng, market, shop, (store, prices) in random_markets(40, 2):
            story = story_of(market)
            given, passed = shuffled(prices), [row[0] for row in story[1:]]
            other = Market(store, given)
            other.all_done(passed)
            given.clear()
            passed.clear()
            for equal in [market.twin(), other, replayed(store, prices, [row[0] for row in story[1:]])]:
                self.assert_the_same(story_of(equal), story)
            kept = copy.deepcopy(story)
            story.clear()
            self.assert_the_same(story_of(market), kept)
            market.do(("buyer", "zoe"))
            market.do(("undo",))
            self.assert_the_same(story_of(market), kept)

    def test_parameters_by_name(self):
        market = replayed(S, ONE, DEEDS)
        story = story_of(market=market)
        self.assertIsNone(first_wrong(story=story))
        self.assertIs(concludes(rows=[(0,), (1,)], ask=NOTHING, story=story), True)

    def test_after_undo(self):
        market = replayed(S, ONE, DEEDS)
        for many in range(len(DEEDS) - 1, -1, -1):
            market.do(("undo",))
            self.assert_the_same(story_of(market), story_p()[:many + 1])


class FirstWrongTest(Checks):
    def check(self, story, wanted=None):
        before = copy.deepcopy(story)
        found = first_wrong(story)
        self.assert_the_same(found, wanted)
        self.assert_the_same(story, before)

    def test_right_stories(self):
        for rng, market, shop, _ in random_markets(60, 3):
            story = story_of(market)
            for many in range(1, len(story) + 1):
                self.check(story[:many])
                self.check(tuple(story[:many]))

    def test_no_stories(self):
        for value in any_values():
            self.check(value, 0)
            self.check([value], 0)
            self.check((value, BEGIN), 0)
            self.check([BEGIN, value], 1)
            self.check([*story_p(), value], len(DEEDS) + 1)
        for value in [[], (), {}, {0: BEGIN}, BEGIN, "begin", None]:
            self.check(value, 0)
        self.check([BEGIN])
        self.check((BEGIN,))
        self.check([BEGIN, BEGIN], 1)
        self.check([("begin", (("a", 1),), (("t", ("a",)),), (), ())])

    def test_every_place_of_a_story(self):
        """With one place of the story replaced by any value, or turned about, the first wrong row is found."""
        story = story_p()
        wrongs = 0
        for place in places(story):
            if place:
                value = at_place(story, place)
                few = random.Random(repr(place)).sample(any_values(), 12)
                for other in [*turned(value), *few, True, False, [], {}]:
                    changed = replaced(story, place, other)
                    wanted = first_wrong_by_trial(changed)
                    self.assert_the_same(first_wrong(changed), wanted)
                    wrongs += wanted is not None
                    if not the_same(other, value) and wanted is not None:
                        self.assertGreaterEqual(wanted, place[0])
        self.assertGreater(wrongs, 5000)

    def test_the_first_row_with_any_values(self):
        for place in places(BEGIN):
            for value in any_values():
                changed = replaced(BEGIN, place, value)
                self.check([changed], first_wrong_by_trial([changed]))

    def test_a_sale_with_any_values(self):
        story = story_p()
        for value in variants(story[2]):
            changed = [*story[:2], value]
            self.check(changed, first_wrong_by_trial(changed))

    def test_rows_put_in_and_left_out(self):
        kinds = {}
        for rng, market, shop, _ in random_markets(60, 4):
            story = story_of(market)
            for _ in range(25):
                changed = list(story)
                at, to = rng.randrange(len(story)), rng.randrange(len(story))
                way = rng.randrange(6)
                if way == 0:
                    changed.pop(at)
                elif way == 1:
                    changed.insert(to, story[at])
                elif way == 2:
                    changed[at], changed[to] = changed[to], changed[at]
                elif way == 3:
                    changed.insert(to, (("undo",), None, None))
                elif way == 4:
                    changed.insert(to, (random_deed(rng, shop), None, None))
                else:
                    place = rng.choice([place for place in places(story) if place])
                    changed = replaced(story, place, rng.choice(turned(at_place(story, place))))
                wanted = first_wrong_by_trial(changed)
                self.check(changed, wanted)
                kinds[way, wanted is None] = kinds.get((way, wanted is None), 0) + 1
        self.assertTrue(all(kinds[way, False] > 20 for way in range(6)))
        self.assertGreater(len(kinds), 8)

    def test_a_customers_first_row_left_out(self):
        story = story_p()
        self.check(story[:1] + story[2:], 1)
        self.check(story[:3] + story[4:], 3)

    def test_an_undo_and_deeds_that_a_market_rejects(self):
        story = story_p()
        for deed in [("undo",), ("buyer", "ann"), ("hand", "ann", "bob", 1), ("hand", "ann", "bob", True),
                     ("come", ("inn", (1,))), ("go", ("inn", (0,))), ("price", ("inn", 0, 0), 10 ** 6 + 1), ("join", "ann", "cid")]:
            self.check([*story[:4], (deed, None, None), *story[4:]], 4)
            self.check([*story[:4], (deed, None, None)], 4)
        for result, certificate in [((), None), (None, ()), (((), 0), None), (None, ((), ())), (False, None), (None, 0)]:
            self.check([*story[:4], (("buyer", "cid"), result, certificate)], 4)
        unsold = story_of(replayed(S, {}, [("buyer", "ann")]))
        for certificate in [((), ()), None, ((("inn", 0, 0), ("inn", 0, 1)), ())]:
            self.check([*unsold, (("sell", "ann", INN), (((1,),), 0), certificate)], 2)

    def test_other_looks_that_cost_the_price(self):
        """Any looks that settle the ask and cost the price are right, and are then on the shelf."""
        taken = 0
        rng = random.Random(5)
        while taken < 150:
            plan = small_plan(rng, 7)
            store, prices = random_store(rng, plan), random_prices(rng, plan)
            if len(oracle.looks_by_trial(plan)) > 9:
                continue
            shop, story = Shop(plan, store.facts, prices), [story_of(Market(store, prices))[0]]
            shop.do(("buyer", "ann"))
            story.append((("buyer", "ann"), None, None))
            for _ in range(4):
                ask, shelf = random_ask(rng, plan), sorted(shop.people["ann"].shelf)
                offer = oracle.Offer(plan, ask, store.facts, prices, shelf)
                if offer.price is None:
                    continue
                looks_taken = self.other_looks(rng, offer, prices, shelf)
                taken += list(looks_taken) != offer.basket()
                rows, number = shop.sold(shop.people["ann"], ask, looks_taken, offer.price)
                shown = load(store, prices, ask, shelf=shelf)
                story.append((("sell", "ann", ask), (tuple(rows), number), (looks_taken, shown)))
                self.check(story)
                if shelf:
                    for more in [(*looks_taken, shelf[0]), tuple(sorted({*looks_taken, shelf[0]}))]:
                        self.check(replaced(story, (len(story) - 1, 2, 0), more), len(story) - 1)
                for more in [looks_taken[::-1], looks_taken + looks_taken[-1:], looks_taken + looks_taken]:
                    if more != looks_taken:
                        self.check(replaced(story, (len(story) - 1, 2, 0), more), len(story) - 1)

    def other_looks(self, rng, offer, prices, shelf):
        """Looks by chance that settle an offer and cost its price, with free looks at other tables or without."""
        dear = rng.choice(offer.best)
        free = [look for look in sorted(prices) if prices[look] == 0 and look not in shelf]
        while True:
            found = {*dear, *[look for look in free if rng.random() < 0.7]}
            if oracle.settled(offer.bonds, {*found, *shelf}):
                return tuple(sorted(found))

    def test_what_follows_other_looks(self):
        """Later sales are judged with the looks of the rows, not with baskets."""
        prices = uniform(P, 1, inn=None)
        road = (("town", None, ()), ("road", 0), ("town", None, ()))
        part = (("town", (0,), ()), ("road", 0), ("town", None, ()))
        story = story_of(replayed(S, prices, [("buyer", "ann"), ("sell", "ann", road), ("sell", "ann", part)]))
        self.assertEqual(story[2][2][0], (("road", 0, 0), ("road", 0, 1)))
        other = replaced(story, (2, 2, 0), (("road", 1, 0), ("road", 1, 1)))
        self.check(other)
        third = (("town", None, ()), ("road", 0), ("town", (0,), ()))
        fourth = (("town", (1,), ()), ("road", 0), ("town", None, ()))
        asks = [part, third, fourth]
        story = story_of(replayed(S, ONE, [("buyer", "ann"), *[("sell", "ann", ask) for ask in asks]]))
        self.assertEqual([row[1][1] for row in story[2:]], [1, 1, 0])
        self.assertEqual([row[2][0] for row in story[2:]], [(("road", 0, 0),), (("road", 0, 1),), ()])
        self.check(story)
        other = replaced(story, (3, 2, 0), (("road", 1, 0),))
        self.check(other, 4)
        self.check(replaced(replaced(other, (4, 1), ((), 1)), (4, 2), ((("road", 1, 1),), ((("absent", (1, 1)), 1),))))
        free = {**uniform(P, 1), ("road", 1, 0): 0}
        story = story_of(replayed(S, free, [("buyer", "ann"), ("sell", "ann", third), ("price", ("road", 1, 0), 1),
                                            ("sell", "ann", third)]))
        self.assertEqual([row[1] for row in story[2:]], [((), 0), None, ((), 0)])
        self.check(story)
        self.check(replaced(story, (2, 2, 0), ()), 2)

    def test_300_deeds(self):
        rng = random.Random(6)
        plan = small_plan(rng, 9)
        market = Market(random_store(rng, plan), {look: 1 for look in looks(plan)})
        market.all_done([("buyer", name) for name in ["ann", "bob", "cid", "abcdefgh"]])
        while len(list(market.log())) < 300:
            name = rng.choice(market.buyers)
            fact = rng.choice(list(facts(plan)))
            market.do(rng.choice([
                ("sell", name, random_ask(rng, plan)), ("sell", name, random_ask(rng, plan)),
                ("go" if market.store.has(fact) else "come", fact), ("join", name, rng.choice(market.buyers)),
                ("price", rng.choice(list(looks(plan))), rng.randint(0, 5)),
            ]))
        story = story_of(market)
        self.assertEqual(len(story), 301)
        self.check(story)
        self.check(story[:150] + story[151:], first_wrong_by_trial(story[:150] + story[151:]))
        self.check([*story, (("undo",), None, None)], 301)


class ConcludesTest(Checks):
    def test_by_trying_all_stores(self):
        counts = {True: 0, False: 0}
        for rng, market, shop, _ in random_markets(80, 7, 30):
            story = story_of(market)
            for _ in range(6):
                ask, names = random_ask(rng, shop.plan), some_names(rng, market)
                wanted = shop.infers(ask, *names)
                right = answer(market.store, ask)
                others = [[], [right], right[::-1], right + right[:1], right[1:], None, dict.fromkeys(right)]
                for rows in [right, tuple(right), *others, *[list(other) for other in turned(tuple(right))]]:
                    is_right = isinstance(rows, (list, tuple)) and wanted is not None and the_same(list(rows), wanted)
                    found = concludes(story, ask, rows, *names)
                    self.assertIs(found, is_right)
                    counts[found] += 1
        self.assertGreater(min(counts.values()), 200)

    def test_any_value_as_rows(self):
        story = story_of(replayed(S, ONE, DEEDS[:4]))
        for value in [*any_values(), *variants([(0, 1)]), *variants(((0, 1),))]:
            right = the_same(value, [(0, 1)]) or the_same(value, ((0, 1),))
            self.assertIs(concludes(story, A, value, "bob"), right)
            self.assertIs(concludes(tuple(story), A, value, "ann", "bob", "ann"), right)
            self.assertIs(concludes(story, A, value), False)
            self.assertIs(concludes(story, INN, value, "bob"), False)
        for value in variants([(0,), (1,)]):
            self.assertIs(concludes(story, NOTHING, value), the_same(value, [(0,), (1,)]))

    def test_only_the_final_time_counts(self):
        story = story_of(replayed(S, ONE, DEEDS[:4]))
        self.assertIs(concludes(story, A, [(0, 1)], "bob"), True)
        later = [*story, (("come", ("inn", (0,))), None, None)]
        self.assertIs(concludes(later, A, [(0, 1)], "ann", "bob"), False)

    def test_errors(self):
        story = story_of(replayed(S, ONE, DEEDS[:4]))
        self.assert_error(BadStory, {"row": 0}, concludes, [], None, None, None)
        for value in any_values():
            self.assert_error(BadStory, {"row": 0}, concludes, value, A, [], "ann")
            self.assert_error(BadStory, {"row": 5}, concludes, [*story, value], value, value, value)
            self.assert_error(BadStory, {"row": 2}, concludes, [*story[:2], value, *story[2:]], A, [(0, 1)])
            if not oracle.is_ask(P, value):
                self.assert_error(BadAsk, {}, concludes, story, value, value, value)
            if value not in ("ann", "bob"):
                self.assert_error(NoBuyer, {"name": value}, concludes, story, A, value, "ann", value, None)
        great = story_of(Market(Store(long_plan()), {}))
        for ask in too_great_asks():
            self.assert_error(TooMany, {"most": 5000}, concludes, great, ask, None, "ann")

    def test_the_price_is_that_of_the_state_before(self):
        story = story_p()
        self.assertEqual(story[7][1][1], price(S, {**ONE, ("inn", 0, 0): 4}, INN))
        self.assertEqual(first_wrong(story[:5] + story[6:7] + story[5:6] + story[7:]), None)
        self.assertEqual(first_wrong(story[:5] + story[6:]), 6)


if __name__ == "__main__":
    import unittest
    unittest.main()
