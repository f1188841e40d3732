"""Texts of plans, stores, prices and asks, and readers of them."""

from asksold.asks import check_any_ask
from asksold.errors import BadText
from asksold.plans import Plan, is_fact, is_look, is_name
from asksold.prices import check_prices, is_price
from asksold.stores import Store

COLUMN = "column"
TABLE = "table"
FACT = "fact"
PRICE = "price"
WAYS = "><"


def text_of(rows):
    """Return the text whose lines have these words and numbers."""
    return "".join([" ".join([str(word) for word in row]) + "\n" for row in rows])


def plan_text(plan):
    """Return the text of a plan."""
    columns = [(COLUMN, name, many) for name, many in plan.columns]
    return text_of(columns + [(TABLE, name, *names) for name, names in plan.tables])


def store_text(store):
    """Return the text of a store."""
    return text_of([(FACT, table, *row) for table, row in store.facts])


def prices_text(plan, prices):
    """Return the text of prices."""
    check_prices(plan, prices)
    return text_of([(PRICE, *look, prices[look]) for look in sorted(list(prices))])


def stop_text(stop):
    """Return the text of a stop of an ask."""
    column, lot, ones = stop
    values = "" if lot is None else "(" + ",".join([str(value) for value in lot]) + ")"
    return "+".join([column + values, *ones])


def ask_text(plan, ask):
    """Return the text of an ask of any size."""
    check_any_ask(plan, ask)
    words = [stop_text(part) if at % 2 == 0 else part[0] + WAYS[part[1]] for at, part in enumerate(ask)]
    return " ".join(words)


def words_of(line):
    """Return the list of the words of a line, an empty one for any value that is no string."""
    return line.split(" ") if isinstance(line, str) else []


def read_number(word):
    """Return the number that a word of digits without leading zeros is, else None."""
    if word == "" or not all(["0" <= sign <= "9" for sign in word]):
        return None
    if word[0] == "0" and len(word) > 1:
        return None
    return int(word)


def read_numbers(words):
    """Return the tuple of the numbers that the words are, None if one of them is none, or if there are no words."""
    numbers = tuple([read_number(word) for word in words])
    return None if None in numbers or not numbers else numbers


def split_text(text):
    """Return the list of the lines of a text, and whether the last newline is there; raise BadText for no string."""
    if not isinstance(text, str):
        raise BadText(0)
    lines = text.split("\n")
    if lines[-1] == "":
        return lines[:-1], True
    return lines, False


def check_end(lines, is_ended):
    """Raise BadText behind the lines if the last newline is missing."""
    if not is_ended:
        raise BadText(len(lines))


def read_column(line):
    """Return the pair (name, many) of a line of a plan, None for a line of another form."""
    words = words_of(line)
    if len(words) != 3 or words[0] != COLUMN or not is_name(words[1]):
        return None
    many = read_number(words[2])
    return None if many is None else (words[1], many)


def read_table(line):
    """Return the pair (name, columns) of a line of a plan, None for a line of another form."""
    words = words_of(line)
    if len(words) not in (3, 4) or words[0] != TABLE or not all([is_name(word) for word in words]):
        return None
    return words[1], tuple(words[2:])


def parts_of_plan(lines):
    """Return the lists of the columns and of the tables that the lines of a plan tell, or raise BadText."""
    columns = []
    tables = []
    for at, line in enumerate(lines):
        column = read_column(line)
        table = read_table(line)
        if column is not None and not tables:
            columns.append(column)
        elif table is not None and columns:
            tables.append(table)
        else:
            raise BadText(at)
    return columns, tables


def read_fact(plan, line):
    """Return the fact of a line of a store, None for any other line."""
    words = words_of(line)
    row = read_numbers(words[2:])
    if row is None or words[0] != FACT:
        return None
    fact = (words[1], row)
    return fact if is_fact(plan, fact) else None


def read_price(plan, line):
    """Return the pair (look, number) of a line of prices, None for any other line."""
    words = words_of(line)
    numbers = read_numbers(words[2:])
    if numbers is None or len(numbers) != 3 or words[0] != PRICE:
        return None
    look = (words[1], *numbers[:2])
    return (look, numbers[2]) if is_look(plan, look) and is_price(numbers[2]) else None


def plan_of_lines(lines, is_ended):
    """Return the plan of some lines, or raise BadText or BadPlan."""
    columns, tables = parts_of_plan(lines)
    check_end(lines, is_ended and len(tables) > 0)
    return Plan(columns, tables)


def store_of_lines(plan, lines, is_ended):
    """Return the store of some lines, or raise BadText."""
    found = []
    for at, line in enumerate(lines):
        fact = read_fact(plan, line)
        if fact is None or found and fact <= found[-1]:
            raise BadText(at)
        found.append(fact)
    check_end(lines, is_ended)
    return Store(plan, found)


def prices_of_lines(plan, lines, is_ended):
    """Return the prices of some lines, or raise BadText."""
    found = []
    for at, line in enumerate(lines):
        pair = read_price(plan, line)
        if pair is None or found and pair[0] <= found[-1][0]:
            raise BadText(at)
        found.append(pair)
    check_end(lines, is_ended)
    return {look: number for look, number in found}


def read_plan(text):
    """Return the plan of a text, or raise BadText or BadPlan."""
    lines, is_ended = split_text(text)
    return plan_of_lines(lines, is_ended)


def read_store(plan, text):
    """Return the store of a text, or raise BadText."""
    lines, is_ended = split_text(text)
    return store_of_lines(plan, lines, is_ended)


def read_prices(plan, text):
    """Return the prices of a text, or raise BadText."""
    lines, is_ended = split_text(text)
    return prices_of_lines(plan, lines, is_ended)


def read_stop(word):
    """Return the stop that a word is, None for a word of another form."""
    head, *ones = word.split("+")
    column, bracket, rest = head.partition("(")
    if not all([is_name(name) for name in [column, *ones]]):
        return None
    if bracket == "":
        return column, None, tuple(ones)
    lot = read_numbers(rest[:-1].split(","))
    if lot is None or not rest.endswith(")"):
        return None
    return column, lot, tuple(ones)


def read_link(word):
    """Return the link that a word is, None for a word of another form."""
    table = word[:-1]
    if not is_name(table) or word[-1] not in WAYS:
        return None
    return table, WAYS.index(word[-1])


def read_ask(plan, text):
    """Return the ask of a text, or raise BadText or BadAsk."""
    words = words_of(text)
    parts = [read_stop(word) if at % 2 == 0 else read_link(word) for at, word in enumerate(words)]
    if None in parts or len(parts) % 2 == 0:
        raise BadText(0)
    ask = tuple(parts)
    check_any_ask(plan, ask)
    return ask
