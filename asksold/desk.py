"""A desk: a market that is led by rows of text and answers with rows of text."""

from asksold.consistent import overpriced
from asksold.errors import (
    BadAsk, BadDeed, BadFact, BadLook, BadPlan, BadPrices, BadText, NoBuyer, NotForSale, TooMany,
)
from asksold.judging import first_wrong, story_of
from asksold.market import Market
from asksold.sure import status
from asksold.texts import (
    COLUMN, FACT, TABLE, plan_of_lines, prices_of_lines, read_ask, read_number, read_numbers, split_text,
    store_of_lines, words_of,
)

PLAN = "plan"
DONE = "done"
KEPT = ".."
OK = "ok"
NONE = "none"
OPEN = "open"
UNSOLD = "-"
NO_ROW = "no row"


def joined(words):
    """Return the words in one row, the word for none if there are none."""
    return " ".join(words) if words else NONE


def look_word(look):
    """Return the word for a look."""
    return ":".join([str(part) for part in look])


def row_words(rows):
    """Return the list of the words for rows of an ask."""
    return [",".join([str(value) for value in row]) for row in rows]


def say_deed(market, *deed):
    """Do a deed without a result."""
    market.do(deed)
    return OK


def say_buyer(market, name):
    """Answer a row buyer NAME."""
    return say_deed(market, "buyer", name)


def say_come(market, table, row):
    """Answer a row come TABLE VALUE .."""
    return say_deed(market, "come", (table, row))


def say_go(market, table, row):
    """Answer a row go TABLE VALUE .."""
    return say_deed(market, "go", (table, row))


def say_price(market, table, side, value, number):
    """Answer a row price TABLE SIDE VALUE NUMBER."""
    return say_deed(market, "price", (table, side, value), None if number == UNSOLD else number)


def say_hand(market, name, other, k):
    """Answer a row hand NAME OTHER K."""
    return say_deed(market, "hand", name, other, k)


def say_join(market, name, other):
    """Answer a row join NAME OTHER."""
    return say_deed(market, "join", name, other)


def say_undo(market):
    """Answer a row undo."""
    return say_deed(market, "undo")


def say_sell(market, name, text):
    """Answer a row sell NAME ASK."""
    ask = read_ask(market.store.plan, text)
    rows, number = market.do(("sell", name, ask))
    return joined([str(number), *row_words(rows)])


def say_cost(market, name, text):
    """Answer a row cost NAME ASK."""
    number = market.price_for(name, read_ask(market.store.plan, text))
    return UNSOLD if number is None else str(number)


def say_status(market, name, table, row):
    """Answer a row status NAME TABLE VALUE .."""
    answers = [(ask, rows) for time, ask, rows in market.heard(name) if time == market.time]
    return status(market.store.plan, answers, (table, row))


def say_infer(market, name, text):
    """Answer a row infer NAME ASK."""
    rows = market.infers(read_ask(market.store.plan, text), name)
    return OPEN if rows is None else joined(row_words(rows))


def say_shelf(market, name):
    """Answer a row shelf NAME."""
    return joined([look_word(look) for look in market.shelf(name)])


def say_purse(market, name):
    """Answer a row purse NAME."""
    return str(market.purse(name))


def say_overpriced(market):
    """Answer a row overpriced."""
    pairs = overpriced(market.store.plan, market.prices)
    return joined([look_word(look) + "=" + str(number) for look, number in pairs])


def say_judge(market):
    """Answer a row judge."""
    wrong = first_wrong(story_of(market))
    return OK if wrong is None else str(wrong)


# What follows the first word of a row: w a word, n a number, p a number or a dash, v numbers, a an ask's words.
FORMS = {
    "buyer": "w", "come": "wv", "go": "wv", "price": "wnnp", "hand": "wwn", "join": "ww", "undo": "", "sell": "wa",
    "cost": "wa", "status": "wwv", "infer": "wa", "shelf": "w", "purse": "w", "overpriced": "", "judge": "",
}
ANSWERS = {
    "buyer": say_buyer, "come": say_come, "go": say_go, "price": say_price, "hand": say_hand, "join": say_join,
    "undo": say_undo, "sell": say_sell, "cost": say_cost, "status": say_status, "infer": say_infer,
    "shelf": say_shelf, "purse": say_purse, "overpriced": say_overpriced, "judge": say_judge,
}


def read_part(kind, words):
    """Return what the words for a part of this kind tell, None if they do not have its form."""
    if kind == "v":
        return read_numbers(words)
    if kind == "n":
        return read_number(words[0])
    if kind == "p" and words[0] != UNSOLD:
        return read_number(words[0])
    return " ".join(words) if kind == "a" else words[0]


def read_parts(form, words):
    """Return the list of the parts that the words behind the first one tell, None if they do not have the form."""
    if len(words) < len(form):
        return None
    has_rest = form != "" and form[-1] in "va"
    if len(words) > len(form) and not has_rest:
        return None
    parts = []
    for at, kind in enumerate(form):
        parts.append(read_part(kind, words[at:] if kind in "va" else [words[at]]))
    return None if None in parts else parts


def said(market, row):
    """Return the answer of a market to a row, or raise an error."""
    words = words_of(row)
    if not words or words[0] not in FORMS:
        return NO_ROW
    parts = read_parts(FORMS[words[0]], words[1:])
    if parts is None:
        return NO_ROW
    answer = ANSWERS[words[0]]
    return answer(market, *parts)


def split_kept(rows):
    """Return the lists of those rows that should be the lines of a plan, of a store, and of prices."""
    firsts = [words_of(row)[:1] for row in rows]
    at = 0
    while at < len(rows) and firsts[at] in ([COLUMN], [TABLE]):
        at += 1
    end = at
    while end < len(rows) and firsts[end] == [FACT]:
        end += 1
    return rows[:at], rows[at:end], rows[end:]


def market_of(rows):
    """Return the market whose plan, store and prices these rows tell, or raise an error."""
    plan_lines, store_lines, price_lines = split_kept(rows)
    plan = plan_of_lines(plan_lines, True)
    store = store_of_lines(plan, store_lines, True)
    return Market(store, prices_of_lines(plan, price_lines, True))


class Desk:
    """A desk with a market, once it has one, and with the rows that are kept for the next one."""

    def __init__(self):
        self._market = None
        self._kept = None

    def say(self, row):
        """Return the answer to a row."""
        if self._kept is not None and row != DONE:
            self._kept.append(row)
            return KEPT
        try:
            return self.answered(row)
        except BadText:
            return "refused badtext"
        except BadPlan:
            return "refused badplan"
        except BadFact:
            return "refused badfact"
        except BadLook:
            return "refused badlook"
        except BadAsk:
            return "refused badask"
        except TooMany:
            return "refused toomany"
        except BadPrices:
            return "refused badprices"
        except NotForSale:
            return "refused notforsale"
        except NoBuyer:
            return "refused nobuyer"
        except BadDeed:
            return "refused baddeed"

    def answered(self, row):
        """Return the answer to a row that is not kept, or raise an error."""
        if self._kept is not None:
            rows = self._kept
            self._kept = None
            self._market = market_of(rows)
            return OK
        if row == PLAN:
            self._kept = []
            return KEPT
        if self._market is None:
            return NO_ROW
        return said(self._market, row)


def answers(text):
    """Return the list of the answers of a new desk to the lines of a text."""
    lines, is_ended = split_text(text)
    if not is_ended:
        raise BadText(len(lines))
    desk = Desk()
    return [desk.say(line) for line in lines]
