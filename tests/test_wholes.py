"""Points 2 and 18 and the interface of roundcall.wholes."""

import fractions
import inspect
import itertools
import math
import unittest

from roundcall import wholes
from roundcall.wholes import divisor, least_round, shares
from tests.plain import GREAT

# Of a hundred figures each, prime powers and their products among them.
LARGE = [GREAT, GREAT - 1, 10 ** 99, 2 ** 332, 3 ** 209, 2 ** 100 * 3 ** 140, math.factorial(69)]


def plain_divisor(one, other):
    if one == other == 0:
        return 0
    return max(n for n in range(1, max(one, other) + 1) if one % n == 0 and other % n == 0)


def plain_least_round(numbers):
    return next(n for n in itertools.count(1) if all(n % number == 0 for number in numbers))


class Interface(unittest.TestCase):
    def test_names_and_arguments(self):
        forms = {"divisor": "(one, other)", "least_round": "(numbers)", "shares": "(numbers)"}
        for name, form in forms.items():
            with self.subTest(name=name):
                self.assertEqual(str(inspect.signature(getattr(wholes, name))), form)


class Divisor(unittest.TestCase):
    def test_small_numbers_against_the_words_of_the_document(self):
        for one, other in itertools.product(range(31), repeat=2):
            with self.subTest(one=one, other=other):
                self.assertEqual(divisor(one, other), plain_divisor(one, other))

    def test_nothing_and_another_one(self):
        self.assertEqual(divisor(0, 0), 0)
        for number in [1, 2, 12, GREAT]:
            self.assertEqual(divisor(0, number), number)
            self.assertEqual(divisor(number, 0), number)

    def test_equal_ones(self):
        for number in [1, 2, 97] + LARGE:
            self.assertEqual(divisor(number, number), number)

    def test_a_hundred_figures(self):
        for one, other in itertools.product(LARGE, repeat=2):
            self.assertEqual(divisor(one, other), math.gcd(one, other))
        self.assertEqual(divisor(2 ** 332, 2 ** 100 * 3 ** 140), 2 ** 100)
        self.assertEqual(divisor(GREAT, 9), 9)

    def test_the_longest_ways_down(self):
        one, other = 1, 1
        while other <= GREAT:
            one, other = other, one + other
        self.assertEqual(divisor(one, other - one), 1)
        self.assertEqual(divisor(other - one, one), 1)


class LeastRound(unittest.TestCase):
    def test_no_numbers(self):
        self.assertEqual(least_round([]), 1)

    def test_small_numbers_against_the_words_of_the_document(self):
        for size in [1, 2, 3]:
            for numbers in itertools.product(range(1, 9), repeat=size):
                with self.subTest(numbers=numbers):
                    self.assertEqual(least_round(list(numbers)), plain_least_round(numbers))

    def test_equal_ones(self):
        self.assertEqual(least_round([6, 6, 6]), 6)
        self.assertEqual(least_round([GREAT] * 300), GREAT)

    def test_a_hundred_figures(self):
        self.assertEqual(least_round([GREAT, GREAT - 1]), GREAT * (GREAT - 1))
        self.assertEqual(least_round(LARGE), math.lcm(*LARGE))
        many = [GREAT - number for number in range(300)]
        self.assertEqual(least_round(many), math.lcm(*many))

    def test_the_list_stays_as_handed_in(self):
        numbers = [4, 6, 1]
        self.assertEqual(least_round(numbers), 12)
        self.assertEqual(numbers, [4, 6, 1])


class Shares(unittest.TestCase):
    def test_no_numbers(self):
        self.assertEqual(shares([]), (0, 1))

    def test_written_out(self):
        self.assertEqual(shares([1]), (1, 1))
        self.assertEqual(shares([7]), (1, 7))
        self.assertEqual(shares([2, 2]), (1, 1))
        self.assertEqual(shares([2, 3, 6]), (1, 1))
        self.assertEqual(shares([3, 6]), (1, 2))
        self.assertEqual(shares([4, 6]), (5, 12))
        self.assertEqual(shares([1, 1, 1]), (3, 1))
        self.assertEqual(shares([2, 4, 8]), (7, 8))
        self.assertEqual(shares([10, 15]), (1, 6))

    def test_a_tuple_of_whole_numbers_in_least_terms(self):
        for size in [0, 1, 2, 3]:
            for numbers in itertools.product(range(1, 13), repeat=size):
                told = shares(list(numbers))
                total = sum((fractions.Fraction(1, number) for number in numbers), fractions.Fraction(0))
                with self.subTest(numbers=numbers):
                    self.assertIs(type(told), tuple)
                    self.assertEqual([type(part) for part in told], [int, int])
                    self.assertEqual(told, (total.numerator, total.denominator))

    def test_a_hundred_figures(self):
        self.assertEqual(shares([GREAT]), (1, GREAT))
        self.assertEqual(shares([2 * 10 ** 99] * 2), (1, 10 ** 99))
        self.assertEqual(shares([GREAT, GREAT - 1]), (2 * GREAT - 1, GREAT * (GREAT - 1)))
        self.assertEqual(shares([3 * 10 ** 98] * 300), (1, 10 ** 96))
        total = sum(fractions.Fraction(1, number) for number in LARGE)
        self.assertEqual(shares(LARGE), (total.numerator, total.denominator))

    def test_three_hundred_numbers_of_a_hundred_figures(self):
        many = [GREAT - 7 * number for number in range(300)]
        told = shares(many)
        bottom = math.lcm(*many)
        top = sum(bottom // number for number in many)
        self.assertEqual(told[0] * bottom, told[1] * top)
        self.assertEqual(math.gcd(*told), 1)

    def test_the_list_stays_as_handed_in(self):
        numbers = [4, 6, 1, 4]
        shares(numbers)
        self.assertEqual(numbers, [4, 6, 1, 4])


if __name__ == "__main__":
    unittest.main()
