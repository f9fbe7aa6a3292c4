"""The greatest sum under limits, by which papers are found: amounts and prices show that they are right."""

import random
import unittest

from bestcodes.simplex import greatest_sum


class GreatestSum(unittest.TestCase):

    def check(self, rows, limits):
        kept = [list(row) for row in rows], list(limits)
        amounts, prices, whole = greatest_sum(rows, limits)
        self.assertEqual(([list(row) for row in rows], list(limits)), kept)
        self.assertGreater(whole, 0)
        self.assertGreaterEqual(min(amounts + prices), 0)
        self.assertEqual((len(amounts), len(prices)), (len(rows[0]), len(rows)))
        for row, limit in zip(rows, limits):
            self.assertLessEqual(sum(entry * amount for entry, amount in zip(row, amounts)), limit * whole)
        for column in zip(*rows):
            self.assertGreaterEqual(sum(entry * price for entry, price in zip(column, prices)), whole)
        # both sums are the same: so neither can be better
        self.assertEqual(sum(amounts), sum(price * limit for price, limit in zip(prices, limits)))
        self.assertLessEqual(len([price for price in prices if price > 0]), len(amounts))

    def test_tables_made_anyhow(self):
        draw = random.Random(3)
        for _ in range(500):
            most = draw.choice((1, 2, 3, 9, 10 ** 30))
            many = draw.randint(1, 5)
            rows = [[draw.randint(1, most) for _ in range(many)] for _ in range(draw.randint(1, 12))]
            self.check(rows, [draw.randint(1, draw.choice((1, 3, 60))) for _ in rows])

    def test_rows_that_are_alike(self):
        self.check([[1, 1, 1]] * 5, [1] * 5)
        self.check([[2, 2], [1, 1], [2, 2], [1, 1]], [2, 1, 2, 1])
        self.check([[1, 2], [2, 1], [1, 2], [2, 1], [3, 3]], [3, 3, 3, 3, 6])


if __name__ == "__main__":
    unittest.main()
