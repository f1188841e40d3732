"""Readers of the texts of points 25 and 26 by regular expressions."""

import re

import oracle
from asksold.plans import Plan
from asksold.stores import Store
from shop import check

NAME, NUMBER = "[a-z]{1,8}", "(?:0|[1-9][0-9]*)"
STOP = rf"({NAME})(?:\(({NUMBER}(?:,{NUMBER})*)\))?((?:\+{NAME})*)"
LINK = rf"({NAME})([<>])"


def lines_of(text):
    check(type(text) is str, "BadText", row=0)
    return re.findall(r"[^\n]*\n", text), re.search(r"[^\n]*\Z", text).group()


def read_lines(text, read):
    """What a function reads from each line, given the list of what was read before; it fails where that is None."""
    lines, last = lines_of(text)
    found = []
    for line in [line[:-1] for line in lines] + [last] * (last != ""):
        item = read(line, found)
        check(item is not None, "BadText", row=len(found))
        found.append(item)
    check(last == "", "BadText", row=len(found))
    return found


def is_plan(columns, tables):
    names = [name for name, _ in columns]
    return (1 <= len(columns) <= 6 and len(set(names)) == len(names) and all(1 <= many <= 6 for _, many in columns)
            and 1 <= len(tables) <= 8 and len({name for name, _ in tables}) == len(tables)
            and all(name in names for _, those in tables for name in those))


def read_plan(text):
    def read(line, found):
        column = re.fullmatch(f"column ({NAME}) ({NUMBER})", line)
        table = re.fullmatch(f"table ({NAME}) ({NAME})(?: ({NAME}))?", line)
        if column and not any(kind == "table" for kind, _ in found):
            return "column", (column[1], int(column[2]))
        if table and found:
            return "table", (table[1], tuple(name for name in table.groups()[1:] if name))
        return None

    found = read_lines(text, read)
    columns, tables = [[pair for kind, pair in found if kind == wanted] for wanted in ("column", "table")]
    check(tables, "BadText", row=len(found))
    check(is_plan(columns, tables), "BadPlan")
    return Plan(columns, tables)


def read_store(plan, text):
    def read(line, found):
        match = re.fullmatch(f"fact ([a-z]+)((?: {NUMBER})+)", line)
        fact = match and (match[1], tuple(map(int, match[2].split())))
        return fact if fact and oracle.is_fact(plan, fact) and not (found and fact <= found[-1]) else None

    return Store(plan, read_lines(text, read))


def read_prices(plan, text):
    def read(line, found):
        match = re.fullmatch(f"price ([a-z]+) ({NUMBER}) ({NUMBER}) ({NUMBER})", line)
        pair = match and ((match[1], int(match[2]), int(match[3])), int(match[4]))
        right = pair and oracle.is_prices(plan, dict([pair])) and not (found and pair[0] <= found[-1][0])
        return pair if right else None

    return dict(read_lines(text, read))


def read_stop(match):
    lot = None if match[2] is None else tuple(map(int, match[2].split(",")))
    return match[1], lot, tuple(match[3].split("+")[1:])


def read_ask(plan, text):
    check(type(text) is str and re.fullmatch(rf"{STOP}(?: {LINK} {STOP})*", text), "BadText", row=0)
    parts = []
    for at, word in enumerate(text.split(" ")):
        match = re.fullmatch(STOP if at % 2 == 0 else LINK, word)
        parts.append(read_stop(match) if at % 2 == 0 else (match[1], "><".index(match[2])))
    check(oracle.is_ask(plan, tuple(parts)), "BadAsk")
    return tuple(parts)


def changed(rng, text):
    """The text with some sign, word or line put in, left out, doubled or changed, or with another end."""
    at = rng.randrange(len(text) + 1)
    way = rng.randrange(9)
    if way == 0:
        return text[:at] + text[at + 1:]
    if way in (1, 2):
        return text[:at] + rng.choice(" 0123456789azAZ-+(),<>_\n") + text[at + way - 1:]
    if way == 3:
        return rng.choice([text[:-1], text + "\n", text + text, text + " ", " " + text, "", text[:at], text[at:]])
    mark = "\n" if way < 7 else " "
    parts = text.split(mark)
    one, two = rng.randrange(len(parts)), rng.randrange(len(parts))
    if way in (4, 7):
        parts[one], parts[two] = parts[two], parts[one]
    elif way in (5, 8):
        parts.insert(one, parts[two])
    else:
        parts.pop(one)
    return mark.join(parts)
