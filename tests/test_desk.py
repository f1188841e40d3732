"""The desk, row by row, and long sessions against a desk that tries everything."""

import random

import oracle
import reading
from asksold.asks import answer
from asksold.desk import Desk, answers
from asksold.errors import BadText
from asksold.market import Market
from asksold.plans import Plan, facts, looks
from asksold.samples import sample_plan, sample_prices, sample_store
from asksold.stores import Store
from asksold.texts import ask_text, plan_text, prices_text, store_text
from cases import any_values, long_plan, random_ask, random_prices, random_store, small_plan, too_great_asks
from checks import Checks
from shop import NAMES, outcome, random_deed
from trialdesk import FORMS, PLAIN, TrialDesk

P, S, ONE = sample_plan(), sample_store(), sample_prices()
ROAD, BOTH, INN = "town road> town", "town road> town+inn", "town+inn"


def texts_of(plan, store, prices):
    return plan_text(plan) + store_text(store) + prices_text(plan, prices)


def opened(plan=P, store=S, prices=ONE, desk=None):
    desk = Desk() if desk is None else desk
    for row in ["plan", *texts_of(plan, store, prices).split("\n")[:-1], "done"]:
        desk.say(row)
    return desk


def all_rows(*rows):
    """All that can be asked of the desk of the plan P about these customers."""
    found = ["overpriced", "judge"]
    for name in rows:
        found.extend(f"{word} {name}" for word in ["shelf", "purse"])
        for ask in [ROAD, BOTH, INN, "town", "town(1)+inn", "town(0) road> town"]:
            found.extend(f"{word} {name} {ask}" for word in ["cost", "infer"])
        found.extend(f"status {name} {fact[0]} {' '.join(map(str, fact[1]))}" for fact in facts(P))
    return found


def random_row(rng, desk):
    """A row that a desk can mostly answer."""
    shop, names = desk.shop, [*desk.shop.people] or ["ann"]
    word = rng.choice(["deed"] * 5 + ["cost", "cost", "status", "infer", "infer", "shelf", "purse", "overpriced", "judge"])
    if word == "deed":
        return deed_row(shop, random_deed(rng, shop))
    if word in PLAIN:
        return word
    name = rng.choice(names) if rng.random() < 0.95 else rng.choice(NAMES)
    if word in ("cost", "infer"):
        return f"{word} {name} {ask_text(shop.plan, random_ask(rng, shop.plan))}"
    if word == "status":
        table, row = rng.choice(oracle.facts_by_trial(shop.plan))
        return " ".join([word, name, table, *map(str, row)])
    return f"{word} {name}"


def deed_row(shop, deed):
    word, *parts = deed
    if word == "sell":
        return f"sell {parts[0]} {ask_text(shop.plan, parts[1])}"
    if word in ("come", "go"):
        return " ".join([word, parts[0][0], *map(str, parts[0][1])])
    if word == "price":
        return " ".join([word, *map(str, parts[0]), "-" if parts[1] is None else str(parts[1])])
    return " ".join([word, *map(str, parts)])


class SessionTest(Checks):
    def test_long_sessions(self):
        """All answers of long sessions, some rows of which are changed, are those of a desk that tries everything."""
        rng = random.Random(1)
        kinds = {}
        for _ in range(90):
            plan = small_plan(rng, 6)
            if len(oracle.looks_by_trial(plan)) > 9:
                continue
            desk, trial = Desk(), TrialDesk()
            rows = ["plan", *texts_of(plan, random_store(rng, plan), random_prices(rng, plan)).split("\n")[:-1], "done"]
            for at in range(len(rows) + rng.choice([20, 60, 300])):
                row = rows[at] if at < len(rows) else random_row(rng, trial)
                if at >= len(rows) and rng.random() < 0.15:
                    row = reading.changed(rng, row)
                wanted = trial.say(row)
                self.assertEqual(desk.say(row), wanted, row)
                if at >= len(rows):
                    told = wanted if wanted.startswith(("refused", "no row")) else "answered"
                    kinds[row.split(" ")[0], told] = kinds.get((row.split(" ")[0], told), 0) + 1
                if trial.kept is not None and at >= len(rows):
                    self.assertEqual(desk.say("done"), trial.say("done"))
        for word in [*FORMS, *PLAIN]:
            self.assertGreater(kinds.get((word, "answered"), 0), 8, word)
        told = {found for _, found in kinds}
        self.assertLess({"no row", "refused badtext", "refused badask", "refused baddeed", "refused nobuyer",
                         "refused notforsale", "refused badfact"}, told)

    def test_a_whole_session_at_once(self):
        rng = random.Random(2)
        for _ in range(10):
            plan = small_plan(rng, 5)
            if len(oracle.looks_by_trial(plan)) > 9:
                continue
            trial = TrialDesk()
            rows, wanted = [], []
            for row in ["plan", *texts_of(plan, random_store(rng, plan), {}).split("\n")[:-1], "done"]:
                rows.append(row)
                wanted.append(trial.say(row))
            for _ in range(40):
                rows.append(random_row(rng, trial))
                wanted.append(trial.say(rows[-1]))
            text = "".join(row + "\n" for row in rows)
            self.assert_the_same(answers(text), wanted)
            self.assert_the_same(answers(text=text), wanted)

    def test_the_same_as_a_market(self):
        desk, market = opened(), Market(S, ONE)
        for row, deed, said in [
            ("buyer ann", ("buyer", "ann"), "ok"), ("buyer bob", ("buyer", "bob"), "ok"),
            (f"sell ann {BOTH}", ("sell", "ann", (("town", None, ()), ("road", 0), ("town", None, ("inn",)))), "3 0,1"),
            ("hand ann bob 0", ("hand", "ann", "bob", 0), "ok"), ("price road 0 1 5", ("price", ("road", 0, 1), 5), "ok"),
            ("price inn 0 0 -", ("price", ("inn", 0, 0), None), "ok"), ("go inn 1", ("go", ("inn", (1,))), "ok"),
            (f"sell bob {ROAD}", ("sell", "bob", (("town", None, ()), ("road", 0), ("town", None, ()))), "2 0,1"),
            ("come road 1 1", ("come", ("road", (1, 1))), "ok"), ("join bob ann", ("join", "bob", "ann"), "ok"),
        ]:
            self.assertEqual(desk.say(row=row), said)
            market.do(deed)
            for name in market.buyers:
                words = " ".join(":".join(map(str, look)) for look in market.shelf(name))
                self.assertEqual(desk.say(f"shelf {name}"), words or "none")
                self.assertEqual(desk.say(f"purse {name}"), str(market.purse(name)))

    def test_a_session_of_the_plan_p(self):
        rows = [
            ("buyer ann", "no row"), ("plan", ".."), ("column town 2", ".."), ("table inn town", ".."),
            ("table road town town", ".."), ("fact inn 1", ".."), ("fact road 0 1", ".."), ("price inn 0 0 1", ".."),
            ("price inn 0 1 1", ".."), ("price road 0 0 1", ".."), ("price road 0 1 1", ".."), ("price road 1 0 1", ".."),
            ("price road 1 1 1", ".."), ("done", "ok"), ("buyer ann", "ok"), ("buyer ann", "refused nobuyer"),
            ("cost ann town road> town+inn", "3"), ("infer ann town road> town+inn", "open"), ("shelf ann", "none"),
            ("sell ann town road> town+inn", "3 0,1"), ("cost ann town road> town+inn", "0"), ("purse ann", "3"),
            ("shelf ann", "inn:0:0 inn:0:1 road:1:1"), ("infer ann town road> town+inn", "0,1"),
            ("infer ann town(0)+inn", "open"), ("infer ann town(1)+inn", "1"), ("infer ann town", "0 1"),
            ("sell ann town(0)+inn", "0"), ("infer ann town(0)+inn", "none"), ("status ann inn 1", "present"),
            ("status ann road 1 1", "absent"), ("status ann road 0 0", "open"), ("overpriced", "none"),
            ("price road 0 1 5", "ok"), ("price road 1 0 -", "ok"), ("overpriced", "road:1:0=6"), ("price road 1 0 4", "ok"),
            ("overpriced", "none"), ("price road 0 1 6", "ok"), ("overpriced", "road:0:1=5"), ("price road 0 0 -", "ok"),
            ("overpriced", "road:0:0=5 road:0:1=5"), ("judge", "ok"), ("sell bob town", "refused nobuyer"),
            ("buyer bob", "ok"), ("cost bob town(0) road> town(0)", "4"), ("price road 1 0 -", "ok"),
            ("cost bob town(0) road> town(0)", "-"), ("sell bob town(0) road> town(0)", "refused notforsale"),
            ("hand ann bob 0", "ok"), ("infer bob town road> town+inn", "0,1"), ("hand ann bob 2", "refused baddeed"),
            ("come inn 0", "ok"), ("infer bob town road> town+inn", "open"), ("status bob inn 1", "open"),
            ("come inn 0", "refused baddeed"), ("undo", "ok"), ("infer bob town road> town+inn", "0,1"),
            ("join bob ann", "ok"), ("shelf bob", "inn:0:0 inn:0:1 road:1:1"), ("purse bob", "0"), ("judge", "ok"),
        ]
        self.assertEqual(answers("".join(row + "\n" for row, _ in rows)), [said for _, said in rows])


class RowsTest(Checks):
    def test_rows_without_a_form(self):
        """A word left out, put in or doubled, a blank more, a sign in a number, a leading zero: no row, no change."""
        desk = opened()
        for row in ["buyer ann", "buyer bob", f"sell ann {BOTH}", "sell ann town"]:
            desk.say(row)
        before = [desk.say(row) for row in all_rows("ann", "bob")]
        for row in [
            "", " ", "done", "plan ", " plan", "plan plan", "done ", "buyer", "buyer cid dan", "buyer cid ", "Buyer cid",
            " buyer cid", "buyers cid", "come", "come inn", "come inn ", "come inn x", "come inn 0 ", "come  inn 0",
            "come inn -1", "come inn +0", "come inn 00", "come inn 01", "come inn 0,1", "come inn 0 x", "come 0", "go",
            "go inn", "go inn one", "go inn 1 ", "go  inn 1", "price", "price inn", "price inn 0", "price inn 0 1",
            "price inn 0 1 5 5", "price inn 0 1 -5", "price inn 0 1 +5", "price inn 0 1 05", "price inn 0 1 --",
            "price inn - 1 5", "price inn 0 - 5", "price inn 00 1 5", "price inn 0 1 ", "price inn 0 1 5 ", "price  inn 0 1 5",
            "price inn 0 1 none", "hand ann bob", "hand ann bob 0 0", "hand ann bob -1", "hand ann bob 00", "hand ann bob x",
            "hand ann bob ", "hand ann bob 0 ", "hand ann  bob 0", "hand", "hand ann", "join", "join ann", "join ann bob ann",
            "join ann bob ", "undo ", " undo", "undo undo", "undo 1", "sell", "sell ann", "cost", "cost ann", "infer",
            "infer ann", "status", "status ann", "status ann inn", "status ann inn ", "status ann inn x", "status ann inn 01",
            "status ann inn 0 ", "shelf", "shelf ann bob", "shelf ann ", "purse", "purse ann ann", "overpriced ",
            "overpriced ann", "judge ", "judge ann", "judges", "..", "ok", "column town 2", "fact inn 0", "sellann town", "\n",
            "undo\n",
        ]:
            with self.subTest(row=row):
                self.assertEqual(desk.say(row), "no row")
        self.assertEqual([desk.say(row) for row in all_rows("ann", "bob")], before)

    def test_values_that_are_no_rows(self):
        desk = opened()
        for value in any_values():
            if type(value) is not str:
                self.assertEqual(desk.say(value), "no row")
                self.assertEqual([desk.say("plan"), desk.say(value), desk.say("done")], ["..", "..", "refused badtext"])
        self.assertEqual([desk.say("buyer ann"), desk.say("judge")], ["ok", "ok"])

    def test_refused_rows(self):
        """Wrong words of every kind, two errors at once, empty words: refused with the first error, no change."""
        desk = opened()
        for row in ["buyer ann", "buyer bob", f"sell ann {BOTH}"]:
            desk.say(row)
        before = [desk.say(row) for row in all_rows("ann", "bob")]
        most = "9" * 40
        for row, word in [
            ("buyer ", "nobuyer"), ("buyer ann", "nobuyer"), ("buyer Cid", "nobuyer"), ("buyer abcdefghi", "nobuyer"),
            ("buyer 1", "nobuyer"), ("buyer cid\n", "nobuyer"), ("come inn 1", "baddeed"), ("come inn 2", "badfact"),
            ("come  0", "badfact"), ("come hill 0", "badfact"), ("come inn 0 0", "badfact"), ("come road 0", "badfact"),
            (f"come inn {most}", "badfact"), ("go inn 0", "baddeed"), ("go road 0 2", "badfact"), ("go town 0", "badfact"),
            ("price hill 0 0 1", "badlook"), ("price inn 1 0 1", "badlook"), ("price inn 0 2 -", "badlook"),
            ("price  0 0 1", "badlook"), (f"price inn {most} {most} {most}", "badlook"), (f"price inn 0 0 {most}", "badprices"),
            ("price inn 0 0 1000001", "badprices"), ("price inn 0 5 1000001", "badlook"), ("hand ann bob 1", "baddeed"),
            ("hand bob ann 0", "baddeed"), (f"hand ann bob {most}", "baddeed"), ("hand ann cid 5", "nobuyer"),
            ("hand  bob 0", "nobuyer"), ("hand ann  0", "nobuyer"), ("hand   0", "nobuyer"), ("join ann ", "nobuyer"),
            ("join ann cid", "nobuyer"), ("join  ", "nobuyer"), ("sell ann ", "badtext"), ("sell  ", "badtext"),
            ("sell cid ", "badtext"), ("sell ann  town", "badtext"), ("sell ann town ", "badtext"), ("sell cid town town", "badtext"),
            ("sell cid hill", "badask"), ("sell cid town", "nobuyer"), ("sell  town", "nobuyer"), ("cost cid town(01)", "badtext"),
            ("cost cid town(1,0)", "badask"), ("cost cid town", "nobuyer"), ("cost ann ", "badtext"), ("infer cid road>", "badtext"),
            ("infer cid inn", "badask"), ("infer cid town", "nobuyer"), ("infer  ", "badtext"), ("status cid inn 9", "nobuyer"),
            ("status ann inn 9", "badfact"), ("status ann  0", "badfact"), ("status  inn 0", "nobuyer"),
            ("status ann road 0", "badfact"), ("shelf ", "nobuyer"), ("shelf cid", "nobuyer"), ("purse ", "nobuyer"),
            ("purse Ann", "nobuyer"), ("sell ann town\n", "badtext"), ("come inn\n 0", "badfact"),
        ]:
            with self.subTest(row=row):
                self.assertEqual(desk.say(row), "refused " + word)
        self.assertEqual([desk.say(row) for row in all_rows("ann", "bob")], before)
        for _ in range(3):
            self.assertEqual(desk.say("undo"), "ok")
        self.assertEqual(desk.say("undo"), "refused baddeed")

    def test_too_many_rows(self):
        plan = long_plan()
        desk = opened(plan, Store(plan), {})
        desk.say("buyer ann")
        for ask in too_great_asks():
            text = ask_text(plan, ask)
            self.assertEqual([desk.say(f"{word} ann {text}") for word in ["sell", "cost", "infer"]],
                             ["refused toomany"] * 3)
            self.assertEqual([desk.say(f"{word} cid {text}") for word in ["sell", "cost", "infer"]],
                             ["refused nobuyer", "refused nobuyer", "refused toomany"])

    def test_names_that_are_words_of_the_rows(self):
        plan = Plan([("done", 2)], [("plan", ("done",)), ("fact", ("done", "done"))])
        desk = opened(plan, Store(plan, [("plan", (1,))]), {look: 2 for look in looks(plan)})
        rows = [("buyer plan", "ok"), ("buyer done", "ok"), ("buyer undo", "ok"), ("sell done done+plan", "4 1"),
                ("hand done plan 0", "ok"), ("infer plan done+plan", "1"), ("status plan plan 0", "absent"),
                ("come fact 0 1", "ok"), ("shelf done", "plan:0:0 plan:0:1"), ("judge", "ok")]
        self.assertEqual([desk.say(row) for row, _ in rows], [said for _, said in rows])

    def test_only_the_present_time_counts(self):
        desk = opened()
        for row in ["buyer ann", f"sell ann {BOTH}", "come inn 0"]:
            desk.say(row)
        self.assertEqual([desk.say("status ann inn 1"), desk.say(f"infer ann {BOTH}"), desk.say("infer ann town")],
                         ["open", "open", "0 1"])
        desk.say("undo")
        self.assertEqual([desk.say("status ann inn 1"), desk.say(f"infer ann {BOTH}")], ["present", "0,1"])


class PlanTest(Checks):
    def test_before_the_first_market(self):
        desk = Desk()
        for row in ["done", "undo", "judge", "overpriced", "buyer ann", "shelf ann", "sell ann town", "", "column town 2"]:
            self.assertEqual(desk.say(row), "no row")
        self.assertEqual([desk.say("plan"), desk.say("judge"), desk.say("done")], ["..", "..", "refused badtext"])
        self.assertEqual([desk.say("done"), desk.say("judge")], ["no row", "no row"])
        self.assertEqual(opened(desk=desk).say("judge"), "ok")

    def test_rows_between_plan_and_done(self):
        """Whatever the rows are, they are answered with two dots, and then taken or refused as a whole."""
        lines = texts_of(P, S, ONE).split("\n")[:-1]
        tables = plan_text(P).split("\n")[:-1]
        for kept, said in [
            (lines, "ok"), (lines[:3], "ok"), (lines[:5], "ok"), ([*lines[:3], lines[7]], "ok"), ([], "refused badtext"),
            (lines[:1], "refused badtext"), (lines[1:], "refused badtext"), (["plan", *lines], "refused badtext"),
            ([*lines, "plan"], "refused badtext"), ([*lines, "done "], "refused badtext"), ([*lines, ""], "refused badtext"),
            ([*lines, "judge"], "refused badtext"), (["", *lines], "refused badtext"), ([*tables, "", lines[3]], "refused badtext"),
            (lines[:3] + lines[5:] + lines[3:5], "refused badtext"), (lines[:3] + lines[3:5][::-1], "refused badtext"),
            ([*lines[:3], "fact hill 0", "price"], "refused badtext"), ([*lines[:3], "fact inn 0", "price"], "refused badtext"),
            (["column town 7", *lines[1:3], "fact hill 0"], "refused badplan"), ([*lines[:3], "table hill hill", "x"], "refused badplan"),
            ([*lines[:3], "column"], "refused badtext"), ([*lines[:4], "table hill town"], "refused badtext"),
            (["column town 2", "table"], "refused badtext"), (["columns town 2", *lines[1:3]], "refused badtext"),
            (["column town 2\ntable inn town"], "refused badtext"), ([*lines[:3], "fact inn 0\nfact inn 1"], "refused badtext"),
            ([*lines[:3], *lines[:3]], "refused badtext"), ([*lines, "price road 1 1 1"], "refused badtext"),
            ([*lines[:3], "price inn 0 0 1000001"], "refused badtext"), ([*lines[:3], "price inn 0 0 1000000"], "ok"),
        ]:
            with self.subTest(kept=kept):
                desk = opened()
                old = [desk.say("buyer ann"), desk.say(f"sell ann {ROAD}"), desk.say("plan")]
                self.assertEqual(old, ["ok", "2 0,1", ".."])
                self.assertEqual([desk.say(row) for row in kept], [".."] * len(kept))
                self.assertEqual(desk.say("done"), said)
                if said == "ok":
                    self.assertEqual([desk.say("purse ann"), desk.say("undo")], ["refused nobuyer", "refused baddeed"])
                else:
                    self.assertEqual([desk.say("purse ann"), desk.say(f"infer ann {ROAD}")], ["2", "0,1"])
                self.assertEqual(desk.say("done"), "no row")

    def test_changed_texts(self):
        """Texts with changes in them are taken, or refused with the first error of the three readers."""
        rng = random.Random(3)
        kinds = {}
        for _ in range(1500):
            plan = small_plan(rng)
            text = texts_of(plan, random_store(rng, plan), random_prices(rng, plan))
            for _ in range(rng.choice([0, 1, 1, 2])):
                text = reading.changed(rng, text)
            desk, trial = Desk(), TrialDesk()
            for row in ["plan", *text.split("\n"), "done", "judge", "overpriced", "buyer ann"]:
                if row == "" and rng.random() < 0.9:
                    continue
                wanted = trial.say(row)
                self.assertEqual(desk.say(row), wanted)
                if row == "done":
                    kinds[wanted] = kinds.get(wanted, 0) + 1
        self.assertEqual(sorted(kinds), ["ok", "refused badplan", "refused badtext"])
        self.assertGreater(min(kinds.values()), 30)

    def test_a_new_market_has_no_customers(self):
        desk = opened()
        desk.say("buyer ann")
        opened(desk=desk)
        self.assertEqual([desk.say("shelf ann"), desk.say("buyer ann"), desk.say("shelf ann")],
                         ["refused nobuyer", "ok", "none"])


class AnswersTest(Checks):
    def test_texts(self):
        self.assert_the_same(answers(""), [])
        self.assert_the_same(answers("\n"), ["no row"])
        self.assert_the_same(answers("plan\n\ndone\n\n"), ["..", "..", "refused badtext", "no row"])
        for text, row in [("plan", 1), ("plan\ndone", 2), (" ", 1), ("\n\nundo", 3), ("undo\n ", 2)]:
            self.assert_error(BadText, {"row": row}, answers, text)
        for value in any_values():
            if type(value) is not str:
                self.assert_error(BadText, {"row": 0}, answers, value)

    def test_each_call_has_a_new_desk(self):
        text = "plan\n" + texts_of(P, S, ONE) + "done\nbuyer ann\n"
        for _ in range(2):
            found = answers(text)
            self.assertEqual(found[-2:], ["ok", "ok"])
            found.clear()
        self.assertEqual(answers("buyer ann\n"), ["no row"])

    def test_a_story_of_many_deeds(self):
        rng = random.Random(4)
        desk, trial = opened(), opened(desk=TrialDesk())
        for _ in range(250):
            row = deed_row(trial.shop, random_deed(rng, trial.shop))
            self.assertEqual(desk.say(row), trial.say(row))
        for row in all_rows(*trial.shop.people):
            self.assertEqual(desk.say(row), trial.say(row))
        self.assertEqual(outcome(trial.shop.status, "ann", ("inn", (0,)))[0], "result")
        self.assertEqual(answer(Store(P, trial.shop.present), (("town", None, ()),)), [(0,), (1,)])


if __name__ == "__main__":
    import unittest
    unittest.main()
