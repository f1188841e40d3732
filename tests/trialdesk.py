"""A desk by the words of the interface, on the shop of shop.py and with the readers of reading.py."""

import re

import oracle
import reading
from shop import Failure, Shop

WORD, NUMBER = r"([^ ]*)", reading.NUMBER
FORMS = {
    "buyer": WORD, "come": rf"{WORD}((?: {NUMBER})+)", "go": rf"{WORD}((?: {NUMBER})+)",
    "price": rf"{WORD} ({NUMBER}) ({NUMBER}) (-|{NUMBER})", "hand": rf"{WORD} {WORD} ({NUMBER})",
    "join": rf"{WORD} {WORD}", "sell": rf"{WORD} (.*)", "cost": rf"{WORD} (.*)", "infer": rf"{WORD} (.*)",
    "status": rf"{WORD} {WORD}((?: {NUMBER})+)", "shelf": WORD, "purse": WORD,
}
PLAIN = ["undo", "overpriced", "judge"]


def numbers(text):
    return tuple(map(int, text.split()))


def listed(words, *first):
    words = [*first, *words]
    return " ".join(words) if words else "none"


def row_words(rows):
    return [",".join(map(str, row)) for row in rows]


def look_word(look):
    return ":".join(map(str, look))


class TrialDesk:
    def __init__(self):
        self.shop = None
        self.kept = None

    def say(self, row):
        try:
            return self.answer(row)
        except Failure as failure:
            return "refused " + failure.kind.lower()

    def answer(self, row):
        if self.kept is not None:
            if row != "done":
                self.kept.append(row)
                return ".."
            rows, self.kept = self.kept, None
            self.shop = opened(rows)
            return "ok"
        if row == "plan":
            self.kept = []
            return ".."
        if self.shop is None:
            return "no row"
        if row in PLAIN:
            return getattr(self, "say_" + row)()
        word, _, rest = row.partition(" ")
        match = re.fullmatch(FORMS[word], rest, re.DOTALL) if word in FORMS and " " in row else None
        return getattr(self, "say_" + word)(*match.groups()) if match else "no row"

    def do(self, *deed):
        self.shop.do(deed)
        return "ok"

    def say_buyer(self, name):
        return self.do("buyer", name)

    def say_come(self, table, values):
        return self.do("come", (table, numbers(values)))

    def say_go(self, table, values):
        return self.do("go", (table, numbers(values)))

    def say_price(self, table, side, value, number):
        return self.do("price", (table, int(side), int(value)), None if number == "-" else int(number))

    def say_hand(self, name, other, k):
        return self.do("hand", name, other, int(k))

    def say_join(self, name, other):
        return self.do("join", name, other)

    def say_undo(self):
        return self.do("undo")

    def say_sell(self, name, ask):
        rows, number = self.shop.do(("sell", name, reading.read_ask(self.shop.plan, ask)))
        return listed(row_words(rows), str(number))

    def say_cost(self, name, ask):
        number = self.shop.price_for(name, reading.read_ask(self.shop.plan, ask))
        return "-" if number is None else str(number)

    def say_infer(self, name, ask):
        rows = self.shop.infers(reading.read_ask(self.shop.plan, ask), name)
        return "open" if rows is None else listed(row_words(rows))

    def say_status(self, name, table, values):
        return self.shop.status(name, (table, numbers(values)))

    def say_shelf(self, name):
        return listed([look_word(look) for look in sorted(self.shop.person(name).shelf)])

    def say_purse(self, name):
        return str(self.shop.person(name).purse)

    def say_overpriced(self):
        found = []
        for look in oracle.looks_by_trial(self.shop.plan):
            others = [other for other in oracle.looks_by_trial(self.shop.plan) if other[:2] == (look[0], 1 - look[1])]
            if others and all(other in self.shop.prices for other in others):
                total = sum(self.shop.prices[other] for other in others)
                if total <= 10 ** 6 and self.shop.prices.get(look, total + 1) > total:
                    found.append(f"{look_word(look)}={total}")
        return listed(found)

    def say_judge(self):
        return "ok"


def opened(rows):
    """The shop of the rows between plan and done: those of the plan come first, then those of the store."""
    rest = list(rows)
    parts = []
    for words in [("column", "table"), ("fact",)]:
        part = []
        while rest and rest[0].split(" ")[0] in words:
            part.append(rest.pop(0))
        parts.append(part)
    texts = ["".join(row + "\n" for row in part) for part in [*parts, rest]]
    plan = reading.read_plan(texts[0])
    store = reading.read_store(plan, texts[1])
    return Shop(plan, store.facts, reading.read_prices(plan, texts[2]))
