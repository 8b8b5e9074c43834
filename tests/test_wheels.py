"""Points 2, 3, 19 and 20 and the interface of roundcall.wheels."""

import inspect
import itertools
import math
import random
import unittest

from roundcall import wheels
from roundcall.errors import NoListener, NoWheel
from roundcall.wheels import called_times, heard, next_turn, shared_turn, wheel_of
from tests.plain import GREAT, plain_heard

SMALL_WHEELS = [
    [], [(1, 0)], [(2, 1)], [(5, 3)], [(2, 0), (2, 1)], [(2, 1), (4, 0)], [(3, 0), (6, 1), (6, 5)], [(6, 1), (10, 0)],
    [(6, 2), (10, 1), (15, 0)], [(4, 3), (2, 0), (8, 5), (16, 1), (16, 9)], [(7, 6), (7, 0), (7, 3)], [(12, 11)],
]
# No walk comes to the turn in which these begin again.
FAR_WHEELS = [
    [(GREAT, GREAT - 1)], [(2, 0), (10 ** 99, 1), (10 ** 99 + 4, 3)],
    [(3 * 10 ** 99, 0), (3 * 10 ** 99 + 3, 10 ** 99), (3 * 10 ** 99 + 6, 3 * 10 ** 99 + 5)],
]


def tuples(most):
    return [(period, first) for period in range(1, most + 1) for first in range(period)]


def plain_shared_turn(one, other):
    together = range(one[0] * other[0])
    return next((turn for turn in together if turn % one[0] == one[1] and turn % other[0] == other[1]), None)


def plain_is_wheel(rows):
    if any(period < 1 or first not in range(period) for period, first in rows):
        return False
    return all(plain_shared_turn(one, other) is None for one, other in itertools.combinations(rows, 2))


def unlike_rows(number):
    """So many rows whose periods are all multiples of the number, so that unlike firsts below it never meet."""
    chance = random.Random(number)
    rows = [(number * chance.randrange(10 ** 96, 10 ** 97), first) for first in range(number)]
    chance.shuffle(rows)
    return rows


class Interface(unittest.TestCase):
    def test_names_and_arguments(self):
        forms = {
            "shared_turn": "(one, other)",
            "wheel_of": "(rows)",
            "heard": "(wheel, turn)",
            "next_turn": "(wheel, who, turn)",
            "called_times": "(wheel, who, begin, end)",
        }
        for name, form in forms.items():
            with self.subTest(name=name):
                self.assertEqual(str(inspect.signature(getattr(wheels, name))), form)


class SharedTurn(unittest.TestCase):
    def test_small_periods_against_a_plain_search(self):
        for one, other in itertools.product(tuples(9), repeat=2):
            told = shared_turn(one, other)
            if told != plain_shared_turn(one, other):
                self.fail(f"{one} and {other}: {told}")

    def test_written_out(self):
        self.assertEqual(shared_turn((3, 2), (5, 4)), 14)
        self.assertEqual(shared_turn((4, 1), (6, 3)), 9)
        self.assertIsNone(shared_turn((4, 1), (6, 2)))
        self.assertIsNone(shared_turn((2, 0), (2, 1)))
        self.assertEqual(shared_turn((1, 0), (7, 5)), 5)
        self.assertEqual(shared_turn((7, 5), (1, 0)), 5)
        self.assertEqual(shared_turn((1, 0), (1, 0)), 0)

    def test_the_same_tuple_twice(self):
        for row in tuples(12) + [(GREAT, 0), (GREAT, GREAT - 1), (10 ** 99, 12345)]:
            self.assertEqual(shared_turn(row, row), row[1])

    def test_the_same_period_with_another_first(self):
        self.assertIsNone(shared_turn((GREAT, 0), (GREAT, GREAT - 1)))
        self.assertIsNone(shared_turn((GREAT, 2), (GREAT, 1)))

    def test_a_turn_far_beyond_both_periods(self):
        self.assertEqual(shared_turn((GREAT, GREAT - 1), (GREAT - 1, GREAT - 2)), GREAT * (GREAT - 1) - 1)
        self.assertEqual(shared_turn((GREAT, 0), (GREAT - 1, 0)), 0)
        self.assertEqual(shared_turn((GREAT, 1), (GREAT - 1, 0)), (GREAT - 1) ** 2)

    def test_any_far_turn_is_found_again(self):
        chance = random.Random(19)
        for common in [1, 2, 6, 10 ** 40, 3 ** 100]:
            for number in range(40):
                one = common * chance.randrange(1, 10 ** 99 // common)
                other = common * chance.randrange(1, 10 ** 99 // common)
                turn = chance.randrange(math.lcm(one, other))
                self.assertEqual(shared_turn((one, turn % one), (other, turn % other)), turn)
                self.assertEqual(shared_turn((other, turn % other), (one, turn % one)), turn)

    def test_far_tuples_that_never_meet(self):
        chance = random.Random(20)
        for common in [2, 3, 97, 10 ** 40, 3 ** 100]:
            for number in range(40):
                one = common * chance.randrange(1, 10 ** 99 // common)
                other = common * chance.randrange(1, 10 ** 99 // common)
                first = chance.randrange(one)
                later = (first + 1 + common * chance.randrange(other)) % other
                self.assertIsNone(shared_turn((one, first), (other, later)))
                self.assertIsNone(shared_turn((other, later), (one, first)))

    def test_one_period_divides_the_other(self):
        self.assertEqual(shared_turn((10 ** 50, 7), (10 ** 99, 5 * 10 ** 98 + 7)), 5 * 10 ** 98 + 7)
        self.assertEqual(shared_turn((10 ** 99, 5 * 10 ** 98 + 7), (10 ** 50, 7)), 5 * 10 ** 98 + 7)
        self.assertIsNone(shared_turn((10 ** 99, 5 * 10 ** 98 + 7), (10 ** 50, 8)))


class WheelOf(unittest.TestCase):
    def test_good_ones_are_told_in_a_new_list(self):
        for rows in SMALL_WHEELS + FAR_WHEELS:
            was = list(rows)
            told = wheel_of(rows)
            with self.subTest(rows=rows):
                self.assertEqual(told, was)
                self.assertIs(type(told), list)
                self.assertIsNot(told, rows)
                self.assertTrue(all(type(row) is tuple for row in told))
                told.append((1, 0))
                self.assertEqual(rows, was)
                self.assertEqual(wheel_of(rows), was)

    def test_rows_that_are_changed_later(self):
        rows = [(2, 0), (4, 1)]
        told = wheel_of(rows)
        rows.clear()
        self.assertEqual(told, [(2, 0), (4, 1)])

    def test_no_listeners(self):
        self.assertEqual(wheel_of([]), [])

    def test_a_period_below_1(self):
        for period in [0, -1, -2, -GREAT]:
            for first in [0, -1, 1, period]:
                with self.subTest(period=period, first=first):
                    with self.assertRaises(NoWheel):
                        wheel_of([(period, first)])
                    with self.assertRaises(NoWheel):
                        wheel_of([(3, 0), (3, 1), (period, first)])

    def test_a_first_out_of_its_bounds(self):
        for period in [1, 2, 5, GREAT]:
            for first in [-1, -period, -GREAT, period, period + 1, 2 * period]:
                with self.subTest(period=period, first=first):
                    with self.assertRaises(NoWheel):
                        wheel_of([(period, first)])
        self.assertEqual(wheel_of([(5, 4)]), [(5, 4)])

    def test_a_wrong_row_behind_good_ones(self):
        with self.assertRaises(NoWheel):
            wheel_of([(4, 0), (4, 1), (4, 4)])
        with self.assertRaises(NoWheel):
            wheel_of([(4, 0), (4, 1), (4, -1)])
        with self.assertRaises(NoWheel):
            wheel_of([(4, -2), (4, 0), (4, 1)])

    def test_two_that_share_a_turn(self):
        for rows in [[(1, 0), (1, 0)], [(1, 0), (9, 8)], [(2, 0), (4, 2)], [(3, 0), (3, 1), (5, 0)],
                     [(4, 0), (4, 1), (4, 2), (4, 0)], [(6, 2), (10, 1), (15, 11)]]:
            for turned in itertools.permutations(rows):
                with self.subTest(rows=turned):
                    with self.assertRaises(NoWheel):
                        wheel_of(list(turned))

    def test_two_that_share_a_turn_far_away(self):
        with self.assertRaises(NoWheel):
            wheel_of([(GREAT, GREAT - 1), (GREAT - 1, GREAT - 2)])
        with self.assertRaises(NoWheel):
            wheel_of([(2, 0), (10 ** 99, 1), (10 ** 99 + 4, 3), (10 ** 99 + 12, 10 ** 99 + 11)])

    def test_small_ones_against_the_words_of_the_document(self):
        rows = [(period, first) for period in range(-1, 5) for first in range(-1, 6)]
        for size in [1, 2]:
            for chosen in itertools.product(rows, repeat=size):
                self.ask(list(chosen))
        for chosen in itertools.product(tuples(4), repeat=3):
            self.ask(list(chosen))

    def ask(self, rows):
        try:
            told = wheel_of(rows)
        except NoWheel:
            told = None
        if told != (rows if plain_is_wheel(rows) else None):
            self.fail(f"{rows}: {told}")

    def test_three_hundred_listeners(self):
        rows = [(300, (7 * number) % 300) for number in range(300)]
        self.assertEqual(wheel_of(rows), rows)
        with self.assertRaises(NoWheel):
            wheel_of(rows[:299] + [(600, rows[0][1] + 300)])
        rows = unlike_rows(300)
        self.assertEqual(wheel_of(rows), rows)

    def test_the_last_two_of_three_hundred_share_a_turn(self):
        rows = unlike_rows(300)
        with self.assertRaises(NoWheel):
            wheel_of(rows[:299] + [(300 * 10 ** 97, rows[298][1])])

    def test_a_refusal_changes_nothing(self):
        rows = [(2, 0), (4, 1), (6, 4)]
        with self.assertRaises(NoWheel):
            wheel_of(rows)
        self.assertEqual(rows, [(2, 0), (4, 1), (6, 4)])


class Heard(unittest.TestCase):
    def test_against_a_plain_walk(self):
        for wheel in SMALL_WHEELS:
            for turn in range(40):
                with self.subTest(wheel=wheel, turn=turn):
                    told = heard(wheel, turn)
                    self.assertEqual([] if told is None else [told], plain_heard(wheel, turn))

    def test_nobody(self):
        self.assertIsNone(heard([], 0))
        self.assertIsNone(heard([], GREAT))
        self.assertIsNone(heard([(2, 1)], GREAT - 1))
        self.assertIsNone(heard([(GREAT, GREAT - 1)], 0))

    def test_turns_of_a_hundred_figures(self):
        wheel = [(6, 2), (10, 1), (15, 0)]
        for turn in range(60):
            for times in [10 ** 97, 10 ** 98 // 7]:
                self.assertEqual(heard(wheel, turn + 30 * times), heard(wheel, turn))
        self.assertEqual(heard([(2, 0), (2, 1)], GREAT), 1)

    def test_periods_of_a_hundred_figures(self):
        wheel = FAR_WHEELS[1]
        self.assertEqual([heard(wheel, turn) for turn in range(6)], [0, 1, 0, 2, 0, None])
        self.assertEqual(heard(wheel, 10 ** 99 + 1), 1)
        self.assertEqual(heard(wheel, 10 ** 99 + 3), None)
        self.assertEqual(heard(wheel, 10 ** 99 + 7), 2)
        self.assertEqual(heard(wheel, 9 * 10 ** 99 + 1), 1)
        self.assertEqual(heard(wheel, 9 * 10 ** 99 + 39), 2)

    def test_three_hundred_listeners(self):
        wheel = unlike_rows(300)
        for who in [0, 1, 150, 299]:
            period, first = wheel[who]
            self.assertEqual(heard(wheel, first + period * 10 ** 90), who)

    def test_the_wheel_stays_as_handed_in(self):
        wheel = [(2, 1), (4, 0)]
        heard(wheel, 7)
        self.assertEqual(wheel, [(2, 1), (4, 0)])


class NextTurn(unittest.TestCase):
    def test_against_a_plain_walk(self):
        for wheel in SMALL_WHEELS:
            for who in range(len(wheel)):
                for turn in range(40):
                    plain = next(later for later in itertools.count(turn) if who in plain_heard(wheel, later))
                    with self.subTest(wheel=wheel, who=who, turn=turn):
                        self.assertEqual(next_turn(wheel, who, turn), plain)

    def test_the_turn_itself_and_the_one_behind_it(self):
        self.assertEqual(next_turn([(5, 3)], 0, 3), 3)
        self.assertEqual(next_turn([(5, 3)], 0, 4), 8)
        self.assertEqual(next_turn([(5, 3)], 0, 0), 3)
        self.assertEqual(next_turn([(1, 0)], 0, GREAT), GREAT)

    def test_numbers_of_a_hundred_figures(self):
        self.assertEqual(next_turn([(GREAT, GREAT - 1)], 0, 0), GREAT - 1)
        self.assertEqual(next_turn([(GREAT, GREAT - 1)], 0, GREAT - 1), GREAT - 1)
        self.assertEqual(next_turn([(GREAT, GREAT - 1)], 0, GREAT), 2 * GREAT - 1)
        self.assertEqual(next_turn(FAR_WHEELS[1], 2, 4), 10 ** 99 + 7)
        self.assertEqual(next_turn([(10, 4)], 0, GREAT), GREAT + 5)

    def test_no_listener(self):
        for wheel in SMALL_WHEELS + FAR_WHEELS:
            for who in [-1, -2, -GREAT, len(wheel), len(wheel) + 1, GREAT]:
                with self.subTest(wheel=wheel, who=who):
                    with self.assertRaises(NoListener):
                        next_turn(wheel, who, 0)

    def test_the_wheel_stays_as_handed_in(self):
        wheel = [(2, 1), (4, 0)]
        next_turn(wheel, 1, 7)
        with self.assertRaises(NoListener):
            next_turn(wheel, 2, 7)
        self.assertEqual(wheel, [(2, 1), (4, 0)])


class CalledTimes(unittest.TestCase):
    def test_against_a_plain_walk(self):
        for wheel in SMALL_WHEELS:
            for who in range(len(wheel)):
                calls = [who in plain_heard(wheel, turn) for turn in range(34)]
                for begin in range(34):
                    for end in range(begin, 35):
                        told = called_times(wheel, who, begin, end)
                        if told != calls[begin:end].count(True):
                            self.fail(f"{wheel}, {who}, {begin}, {end}: {told}")

    def test_an_empty_span(self):
        for turn in [0, 1, 3, 8, GREAT]:
            self.assertEqual(called_times([(5, 3)], 0, turn, turn), 0)

    def test_from_the_first_one_on_ahead_of_the_second_one(self):
        self.assertEqual(called_times([(5, 3)], 0, 3, 8), 1)
        self.assertEqual(called_times([(5, 3)], 0, 3, 9), 2)
        self.assertEqual(called_times([(5, 3)], 0, 4, 8), 0)
        self.assertEqual(called_times([(5, 3)], 0, 0, 3), 0)
        self.assertEqual(called_times([(5, 3)], 0, 0, 4), 1)

    def test_numbers_of_a_hundred_figures(self):
        self.assertEqual(called_times([(1, 0)], 0, 0, GREAT), GREAT)
        self.assertEqual(called_times([(3, 1), (3, 2)], 1, 0, GREAT), GREAT // 3)
        self.assertEqual(called_times([(3, 1), (3, 2)], 1, 2, GREAT), GREAT // 3)
        self.assertEqual(called_times([(3, 1), (3, 2)], 1, 3, GREAT), GREAT // 3 - 1)
        self.assertEqual(called_times([(GREAT, GREAT - 1)], 0, 0, GREAT - 1), 0)
        self.assertEqual(called_times([(GREAT, GREAT - 1)], 0, 0, GREAT), 1)
        self.assertEqual(called_times([(10, 4)], 0, GREAT - 5, GREAT), 1)
        self.assertEqual(called_times([(10, 4)], 0, GREAT - 4, GREAT), 0)

    def test_no_listener(self):
        for wheel in SMALL_WHEELS + FAR_WHEELS:
            for who in [-1, -2, -GREAT, len(wheel), len(wheel) + 1, GREAT]:
                for begin, end in [(0, 0), (0, 9), (5, GREAT)]:
                    with self.subTest(wheel=wheel, who=who, begin=begin, end=end):
                        with self.assertRaises(NoListener):
                            called_times(wheel, who, begin, end)

    def test_the_wheel_stays_as_handed_in(self):
        wheel = [(2, 1), (4, 0)]
        called_times(wheel, 0, 2, 9)
        with self.assertRaises(NoListener):
            called_times(wheel, 2, 2, 9)
        self.assertEqual(wheel, [(2, 1), (4, 0)])


if __name__ == "__main__":
    unittest.main()
