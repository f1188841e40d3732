"""The samples of point 5."""

import unittest

from asksold.plans import Plan
from asksold.samples import sample_ask, sample_plan, sample_prices, sample_store
from asksold.stores import Store
from cases import ask_a, plan_p, prices_one, store_s, the_same


class SamplesTest(unittest.TestCase):
    def test_what_they_are(self):
        plan = Plan([("town", 2)], [("inn", ("town",)), ("road", ("town", "town"))])
        self.assertEqual(sample_plan(), plan)
        self.assertEqual(sample_store(), Store(plan, [("inn", (1,)), ("road", (0, 1))]))
        self.assertTrue(the_same(sample_ask(), (("town", None, ()), ("road", 0), ("town", None, ("inn",)))))
        looks = [("inn", 0, 0), ("inn", 0, 1), ("road", 0, 0), ("road", 0, 1), ("road", 1, 0), ("road", 1, 1)]
        self.assertTrue(the_same(sample_prices(), {look: 1 for look in looks}))

    def test_they_are_those_of_the_other_tests(self):
        self.assertEqual([sample_plan(), sample_store(), sample_ask(), sample_prices()],
                         [plan_p(), store_s(), ask_a(), prices_one()])

    def test_new_objects_each_time(self):
        sample_prices().clear()
        self.assertEqual(len(sample_prices()), 6)
        for sample in [sample_plan, sample_store, sample_prices]:
            self.assertIsNot(sample(), sample())


if __name__ == "__main__":
    unittest.main()
