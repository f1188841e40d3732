"""A market and stories by the words of points 20 to 22, with prices and inferences by trying everything."""

import copy

import oracle
from asksold.plans import Plan
from cases import random_ask, the_same

LENGTHS = {"buyer": 2, "sell": 3, "hand": 4, "join": 3, "price": 3, "come": 2, "go": 2, "undo": 1}
NAMES = ["ann", "bob", "cid", "abcdefgh"]


class Failure(Exception):
    """An error that the document states: the name of its class, and its attributes."""

    def __init__(self, kind, **attributes):
        super().__init__(kind)
        self.kind = kind
        self.attributes = attributes


def outcome(call, *values):
    """As outcome in checks.py."""
    try:
        return "result", call(*values)
    except Failure as failure:
        return failure.kind, failure.attributes


def check(right, kind, **attributes):
    if not right:
        raise Failure(kind, **attributes)


def is_form(deed):
    return type(deed) is tuple and len(deed) > 0 and type(deed[0]) is str and LENGTHS.get(deed[0]) == len(deed)


class Person:
    def __init__(self):
        self.shelf, self.purse, self.heard = set(), 0, []

    def hear(self, item):
        if item not in self.heard:
            self.heard.append(item)


class Shop:
    """A store, prices and people that change with each deed, and copies of all that for undo."""

    def __init__(self, plan, present, prices):
        self.plan = plan
        self.present = sorted(set(present))
        self.prices = dict(prices)
        self.time = 0
        self.people = {}
        self.log = []
        self.past = []

    def person(self, name):
        check(type(name) is str and name in self.people, "NoBuyer", name=name)
        return self.people[name]

    def check_ask(self, ask):
        check(oracle.is_ask(self.plan, ask), "BadAsk")
        check(oracle.many_rows(self.plan, ask) <= 5000, "TooMany", most=5000)

    def do(self, deed):
        check(is_form(deed), "BadDeed", at=0)
        if deed[0] == "undo":
            check(self.past, "BadDeed", at=0)
            past = self.past[:-1]
            self.__dict__.update(self.past[-1])
            self.past = past
            return None
        before = {name: copy.deepcopy(value) for name, value in vars(self).items() if name not in ("plan", "past")}
        result = getattr(self, "do_" + deed[0])(*deed[1:])
        self.past.append(before)
        self.log.append(deed)
        return result

    def do_buyer(self, name):
        check(oracle.is_name(name) and name not in self.people, "NoBuyer", name=name)
        self.people[name] = Person()

    def do_sell(self, name, ask):
        person = self.person(name)
        self.check_ask(ask)
        offer = oracle.Offer(self.plan, ask, self.present, self.prices, person.shelf)
        check(offer.price is not None, "NotForSale", thread=offer.unsold[0] if offer.unsold else None)
        return self.sold(person, ask, offer.basket(), offer.price)

    def sold(self, person, ask, looks, number):
        rows = oracle.answer(self.plan, ask, self.present)
        person.purse += number
        person.shelf |= set(looks)
        person.hear((self.time, ask, tuple(rows)))
        return rows, number

    def do_hand(self, name, other, k):
        giver, taker = self.person(name), self.person(other)
        check(type(k) is int and 0 <= k < len(giver.heard), "BadDeed", at=0)
        taker.hear(giver.heard[k])

    def do_join(self, name, other):
        one, two = self.person(name), self.person(other)
        for item in list(two.heard):
            one.hear(item)
        two.heard = list(one.heard)
        one.shelf, two.shelf = one.shelf | two.shelf, one.shelf | two.shelf

    def do_price(self, look, number):
        check(oracle.is_look(self.plan, look), "BadLook", at=0)
        check(number is None or type(number) is int and 0 <= number <= 10 ** 6, "BadPrices")
        self.prices.pop(look, None)
        if number is not None:
            self.prices[look] = number

    def changed(self, fact):
        self.time += 1
        for person in self.people.values():
            person.shelf -= set(oracle.looks_of_fact(fact))

    def do_come(self, fact):
        check(oracle.is_fact(self.plan, fact), "BadFact")
        check(fact not in self.present, "BadDeed", at=0)
        self.present = sorted([*self.present, fact])
        self.changed(fact)

    def do_go(self, fact):
        check(oracle.is_fact(self.plan, fact), "BadFact")
        check(fact in self.present, "BadDeed", at=0)
        self.present = [other for other in self.present if other != fact]
        self.changed(fact)

    def price_for(self, name, ask):
        person = self.person(name)
        self.check_ask(ask)
        return oracle.Offer(self.plan, ask, self.present, self.prices, person.shelf).price

    def told(self, names):
        return [(ask, rows) for name in names for time, ask, rows in self.person(name).heard if time == self.time]

    def stores_with(self, answers):
        return [present for present in oracle.all_presents(self.plan) if oracle.gives(self.plan, present, answers)]

    def infers(self, ask, *names):
        self.check_ask(ask)
        found = [oracle.answer(self.plan, ask, present) for present in self.stores_with(self.told(names))]
        return found[0] if all(rows == found[0] for rows in found) else None

    def status(self, name, fact):
        answers = self.told([name])
        check(oracle.is_fact(self.plan, fact), "BadFact")
        words = {fact in present for present in self.stores_with(answers)}
        return "open" if len(words) == 2 else "present" if True in words else "absent"

    def state(self):
        """All that can be seen of a market."""
        people = [(name, sorted(person.shelf), person.purse, person.heard) for name, person in self.people.items()]
        return tuple(self.present), sorted(self.prices.items()), self.time, sorted(people), list(self.log)


def state_of(market):
    """As Shop.state, of a market of the package."""
    people = [(name, market.shelf(name), market.purse(name), market.heard(name)) for name in market.buyers]
    return market.store.facts, sorted(market.prices.items()), market.time, people, list(market.log())


def begin_of(thing):
    """The shop at the beginning of a story, None if any value is no such first row."""
    if type(thing) is not tuple or len(thing) != 5 or thing[0] != "begin":
        return None
    if any(type(part) is not tuple for part in thing[1:]):
        return None
    try:
        plan = Plan(thing[1], thing[2])
    except ValueError:
        return None
    facts, pairs = thing[3:]
    if not all(oracle.is_fact(plan, fact) for fact in facts) or not oracle.is_rising(facts):
        return None
    if not all(type(pair) is tuple and len(pair) == 2 for pair in pairs):
        return None
    if not all(oracle.is_look(plan, look) and oracle.is_prices(plan, {look: number}) for look, number in pairs):
        return None
    if not oracle.is_rising([look for look, _ in pairs]):
        return None
    return Shop(plan, facts, dict(pairs))


def follows(shop, row):
    """Whether any value is a right next row of a story; then the shop is led on, with the looks of the row."""
    if type(row) is not tuple or len(row) != 3 or not is_form(row[0]) or row[0][0] == "undo":
        return False
    deed, result, certificate = row
    if deed[0] != "sell":
        if result is not None or certificate is not None:
            return False
        return outcome(shop.do, deed)[0] == "result"
    name, ask = deed[1:]
    if outcome(shop.person, name)[0] != "result" or outcome(shop.check_ask, ask)[0] != "result":
        return False
    person = shop.people[name]
    if not is_shown(shop, person, ask, result, certificate):
        return False
    shop.sold(person, ask, certificate[0], result[1])
    return True


def is_shown(shop, person, ask, result, certificate):
    """Whether a sale's result is right, and its looks and its load show it."""
    for pair in (result, certificate):
        if type(pair) is not tuple or len(pair) != 2:
            return False
    (rows, number), (looks, load) = result, certificate
    if type(number) is not int or not the_same(rows, tuple(oracle.answer(shop.plan, ask, shop.present))):
        return False
    if type(looks) is not tuple or not all(oracle.is_look(shop.plan, look) for look in looks):
        return False
    if not all(look in shop.prices and look not in person.shelf for look in looks) or not oracle.is_rising(looks):
        return False
    bonds = oracle.threads(shop.plan, ask, shop.present)
    if not oracle.settled(bonds, {*looks, *person.shelf}) or sum(shop.prices[look] for look in looks) != number:
        return False
    return oracle.is_load(bonds, shop.prices, person.shelf, load) and sum(part for _, part in load) == number


def first_wrong(story):
    """The index of the first row of any value as story that is not right, or None."""
    if type(story) not in (list, tuple) or not story:
        return 0
    shop = begin_of(story[0])
    if shop is None:
        return 0
    return next((at for at, row in enumerate(story) if at > 0 and not follows(shop, row)), None)


def random_deed(rng, shop):
    """A deed that a shop can mostly do."""
    names = sorted(shop.people)
    words = ["buyer", "price", "come", "go", "undo"] + (["sell"] * 6 + ["hand"] * 3 + ["join"] if names else ["buyer"] * 5)
    word = rng.choice(words)
    if word == "buyer":
        return word, rng.choice(NAMES)
    if word == "sell":
        return word, rng.choice(names), random_ask(rng, shop.plan)
    if word == "hand":
        name = max(rng.sample(names, min(2, len(names))), key=lambda name: len(shop.people[name].heard))
        return word, name, rng.choice(names), rng.randrange(len(shop.people[name].heard) + 1)
    if word == "join":
        return word, rng.choice(names), rng.choice(names)
    if word == "price":
        return word, rng.choice(oracle.looks_by_trial(shop.plan)), rng.choice([None, 0, 1, 2, 3, 10 ** 6])
    if word == "undo":
        return word,
    facts = oracle.facts_by_trial(shop.plan)
    fitting = [fact for fact in facts if (fact in shop.present) == (word == "go")]
    return word, rng.choice(fitting if fitting and rng.random() < 0.9 else facts)
