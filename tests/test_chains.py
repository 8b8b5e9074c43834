"""Points 2, 3, 21, 22 and 23, what point 4 says of wheels, and the interface of roundcall.chains."""

import fractions
import inspect
import itertools
import math
import random
import unittest

from roundcall import chains
from roundcall.chains import best_base, chain_wheel, doubled, too_much, wheel_for
from roundcall.errors import NoChain, NoWheel, TooMuch
from roundcall.wheels import called_times, heard, next_turn, wheel_of
from tests.plain import GREAT, plain_best_base, plain_doublings, plain_ranks, plain_shares

HALF = fractions.Fraction(1, 2)


def plain_chain_refusal(periods):
    if any(period < 1 for period in periods):
        return NoWheel
    if any(one % other != 0 and other % one != 0 for one, other in itertools.combinations(periods, 2)):
        return NoChain
    if plain_shares(periods) > 1:
        return TooMuch
    return None


def some_waits():
    """Lists of small waits: all the shortest ones, and chosen longer ones."""
    for size, most in [(1, 30), (2, 14), (3, 9), (4, 5)]:
        for waits in itertools.product(range(1, most + 1), repeat=size):
            yield list(waits)
    chance = random.Random(22)
    for number in range(600):
        size = chance.randrange(2, 12)
        least = chance.randrange(1, 2 * size)
        yield [chance.randrange(least, least + chance.randrange(2, 60)) for listener in range(size)]


def longest_silence(wheel, who, turns):
    """The greatest number of turns that follow one another without a call of who, in the first so many."""
    calls = [-1] + [turn for turn in range(turns) if heard(wheel, turn) == who] + [turns]
    return max(later - earlier - 1 for earlier, later in zip(calls, calls[1:]))


class Interface(unittest.TestCase):
    def test_names_and_arguments(self):
        forms = {
            "chain_wheel": "(periods)",
            "doubled": "(waits, base)",
            "best_base": "(waits)",
            "wheel_for": "(waits)",
            "too_much": "(waits)",
        }
        for name, form in forms.items():
            with self.subTest(name=name):
                self.assertEqual(str(inspect.signature(getattr(chains, name))), form)


class ChainWheel(unittest.TestCase):
    def fits(self, periods):
        was = list(periods)
        wheel = chain_wheel(periods)
        self.assertIs(type(wheel), list)
        self.assertEqual([type(row) for row in wheel], [tuple] * len(was))
        self.assertEqual([row[0] for row in wheel], was)
        self.assertEqual(wheel_of(wheel), wheel)
        self.assertEqual(periods, was)

    def test_no_periods(self):
        self.assertEqual(chain_wheel([]), [])

    def test_small_ones_against_the_words_of_the_document(self):
        for size in range(5):
            for periods in itertools.product(range(-1, 9), repeat=size):
                refusal = plain_chain_refusal(periods)
                try:
                    wheel = chain_wheel(list(periods))
                except (NoWheel, NoChain, TooMuch) as error:
                    if type(error) is not refusal:
                        self.fail(f"{periods}: {type(error)}")
                else:
                    if refusal or [row[0] for row in wheel] != list(periods) or wheel_of(wheel) != wheel:
                        self.fail(f"{periods}: {wheel}")

    def test_every_turn_of_a_full_wheel_is_called(self):
        for periods in [[1], [2, 2], [3, 3, 3], [2, 4, 4], [4, 2, 8, 8], [6, 2, 6, 6], [12, 12, 3, 6, 6, 12, 12]]:
            wheel = chain_wheel(periods)
            with self.subTest(periods=periods):
                self.assertNotIn(None, [heard(wheel, turn) for turn in range(2 * max(periods))])

    def test_any_order_of_the_periods(self):
        for periods in itertools.permutations([2, 6, 6, 18, 18, 36]):
            self.fits(list(periods))
        for periods in itertools.permutations([3, 3, 6, 12, 24]):
            self.fits(list(periods))

    def test_shares_of_just_1_and_just_above_1(self):
        for size in [1, 2, 3, 10, 100, 298]:
            periods = [2 ** number for number in range(1, size + 1)]
            self.fits(periods + [2 ** size])
            self.fits([2 ** size] + periods[::-1])
            for more in [2 ** size, 2 ** 299]:
                with self.subTest(size=size, more=more):
                    with self.assertRaises(TooMuch):
                        chain_wheel(periods + [2 ** size] + [more])
                    with self.assertRaises(TooMuch):
                        chain_wheel([more] + [2 ** size] + periods)
        with self.assertRaises(TooMuch):
            chain_wheel([1, GREAT])
        with self.assertRaises(TooMuch):
            chain_wheel([1, 1])
        self.fits([1])

    def test_three_hundred_periods(self):
        self.fits([300] * 300)
        self.fits([299] * 299)
        with self.assertRaises(TooMuch):
            chain_wheel([299] * 300)
        self.fits([GREAT] * 300)
        self.fits([2] + [598] * 299)
        self.fits([598] * 150 + [2] + [598] * 149)

    def test_all_sorts_of_long_chains(self):
        chance = random.Random(21)
        for number in range(60):
            periods = self.chosen_chain(chance)
            chance.shuffle(periods)
            self.fits(periods)

    def chosen_chain(self, chance):
        """A chain with as many of each period as there is room for, or somewhat fewer."""
        period = chance.randrange(1, 6)
        room = period
        periods = []
        while len(periods) < 280 and period < 10 ** 99 and room > 0:
            times = chance.randrange(max(1, min(room, 20)))
            periods += [period] * times
            factor = chance.choice([2, 2, 3, 5, 10, 10 ** 9, 7 ** 40])
            room = (room - times) * factor
            period = period * factor
        return periods

    def test_periods_of_a_hundred_figures(self):
        self.fits([GREAT])
        self.fits([GREAT, 3, 3, GREAT])
        self.fits([10 ** number for number in range(1, 100)])
        self.fits([10 ** number for number in range(99, 0, -1) for times in range(3)])
        self.fits([10 ** (1 + number // 3) for number in range(297)])
        self.fits([2, 2 * 3 ** 100, 2 * 3 ** 200, 2 * 3 ** 200])

    def test_a_period_below_1_goes_first(self):
        for period in [0, -1, -2, -GREAT]:
            for others in [[], [1], [1, 1, 1], [2, 3], [2, 3, 1]]:
                with self.subTest(period=period, others=others):
                    with self.assertRaises(NoWheel):
                        chain_wheel(others + [period])
                    with self.assertRaises(NoWheel):
                        chain_wheel([period] + others)

    def test_no_chain_goes_ahead_of_too_much(self):
        for periods in [[2, 3], [4, 6], [1, 1, 2, 3], [2, 3, 1, 1], [5, 1, 1, 7], [2, 4, 6], [4, 2, 6],
                        [GREAT, GREAT - 1], [10 ** 99, 3], [1, 10 ** 99, 10 ** 99 + 1]]:
            with self.subTest(periods=periods):
                with self.assertRaises(NoChain):
                    chain_wheel(periods)

    def test_one_unfit_period_among_three_hundred(self):
        with self.assertRaises(NoChain):
            chain_wheel([2 ** number for number in range(2, 300)] + [3])
        with self.assertRaises(NoChain):
            chain_wheel([2 ** 200 * 3] + [2 ** number for number in range(2, 300)])

    def test_a_refusal_changes_nothing(self):
        for periods in [[4, 2, 0], [4, 2, 3], [4, 1, 2]]:
            was = list(periods)
            with self.assertRaises((NoWheel, NoChain, TooMuch)):
                chain_wheel(periods)
            self.assertEqual(periods, was)

    def test_what_is_told_is_the_askers_own(self):
        periods = [4, 2, 8]
        told = chain_wheel(periods)
        again = chain_wheel(periods)
        self.assertEqual(told, again)
        told.clear()
        self.assertEqual(chain_wheel(periods), again)
        periods.clear()
        self.assertEqual([row[0] for row in again], [4, 2, 8])


class Doubled(unittest.TestCase):
    def test_small_waits_against_the_words_of_the_document(self):
        for base in range(1, 20):
            waits = list(range(base, 100))
            self.assertEqual(doubled(waits, base), plain_doublings(waits, base))

    def test_written_out(self):
        self.assertEqual(doubled([3, 5, 6, 11, 12, 13], 3), [3, 3, 6, 6, 12, 12])
        self.assertEqual(doubled([8, 7, 1], 1), [8, 4, 1])

    def test_no_waits(self):
        for base in [1, 2, GREAT]:
            self.assertEqual(doubled([], base), [])
        for base in [0, -1, -GREAT]:
            with self.assertRaises(NoWheel):
                doubled([], base)

    def test_a_base_below_1(self):
        for base in [0, -1, -2, -GREAT]:
            for waits in [[1], [5, 6], [GREAT]]:
                with self.subTest(base=base, waits=waits):
                    with self.assertRaises(NoWheel):
                        doubled(waits, base)

    def test_a_base_above_one_of_the_waits(self):
        for waits, base in [([1], 2), ([4, 3, 5], 4), ([5, 4], 5), ([4, 5], 5), ([GREAT - 1, GREAT], GREAT)]:
            with self.subTest(waits=waits, base=base):
                with self.assertRaises(NoWheel):
                    doubled(waits, base)
        for waits in [[0], [3, 0], [-1, 3], [-GREAT]]:
            with self.assertRaises(NoWheel):
                doubled(waits, 1)

    def test_waits_of_a_hundred_figures(self):
        self.assertEqual(doubled([GREAT], 1), [2 ** 332])
        self.assertEqual(doubled([GREAT], GREAT), [GREAT])
        self.assertEqual(doubled([2 ** 331, 2 ** 331 - 1, 2 ** 331 + 1], 1), [2 ** 331, 2 ** 330, 2 ** 331])
        self.assertEqual(doubled([3 * 2 ** 300, 3 * 2 ** 300 - 1], 3), [3 * 2 ** 300, 3 * 2 ** 299])
        chance = random.Random(1)
        waits = [chance.randrange(10 ** 60, 10 ** 100) for number in range(300)]
        for base in [1, 7, 10 ** 30 + 1, 10 ** 60]:
            self.assertEqual(doubled(waits, base), plain_doublings(waits, base))

    def test_what_is_handed_in_and_what_is_told(self):
        waits = [3, 7]
        told = doubled(waits, 3)
        self.assertEqual(waits, [3, 7])
        told.append(1)
        waits.append(12)
        self.assertEqual(doubled(waits, 3), [3, 6, 12])
        with self.assertRaises(NoWheel):
            doubled(waits, 4)
        self.assertEqual(waits, [3, 7, 12])


class BestBase(unittest.TestCase):
    def test_against_a_search_over_every_base(self):
        for waits in some_waits():
            told = best_base(waits)
            if told != plain_best_base(waits):
                self.fail(f"{waits}: {told}")

    def test_written_out(self):
        self.assertEqual(best_base([1]), 1)
        self.assertEqual(best_base([7]), 7)
        self.assertEqual(best_base([2, 2]), 2)
        self.assertEqual(best_base([2, 5, 5]), 2)
        self.assertEqual(best_base([5, 7, 9, 15]), 5)
        self.assertEqual(best_base([6, 5, 5, 5, 5]), 5)
        self.assertEqual(best_base([9, 9, 9, 9, 10, 10, 10, 10, 10]), 9)

    def test_a_base_that_is_no_wait(self):
        self.assertEqual(best_base([4, 7, 7, 7, 7]), 3)

    def test_none(self):
        for waits in [[1, 1], [1, GREAT], [2, 3, 3], [2, 3, 6], [3, 3, 3, 4], [2, 2, GREAT]]:
            with self.subTest(waits=waits):
                self.assertIsNone(best_base(waits))
                self.assertIsNone(wheel_for(waits))

    def test_refusals(self):
        for waits in [[], [0], [-1], [3, 0], [0, 3], [5, 5, -GREAT], [1, 1, 0], [1, 1, 1, -1]]:
            with self.subTest(waits=waits):
                was = list(waits)
                with self.assertRaises(NoWheel):
                    best_base(waits)
                with self.assertRaises(NoWheel):
                    wheel_for(waits)
                self.assertEqual(waits, was)

    def test_waits_of_a_hundred_figures(self):
        self.assertEqual(best_base([GREAT]), GREAT)
        self.assertEqual(best_base([GREAT, GREAT - 1]), GREAT - 1)
        self.assertEqual(best_base([3, 3, GREAT]), 3)
        self.assertEqual(best_base([2, GREAT, GREAT]), 2)
        self.assertIsNone(best_base([2, 2, GREAT]))
        self.assertEqual(best_base([4] + [7 * 10 ** 90] * 3), 4)

    def test_small_and_far_waits_against_a_search_over_every_base(self):
        chance = random.Random(23)
        sorts = set()
        for number in range(300):
            size = chance.randrange(4, 30)
            least = chance.randrange(size // 2, size + 2)
            most = chance.choice([2, 3, 4]) * least
            waits = [chance.randrange(least, chance.choice([most] * 9 + [GREAT])) for listener in range(size)]
            told = best_base(waits)
            if told != plain_best_base(waits):
                self.fail(f"{waits}: {told}")
            sorts.add("none" if told is None else "a wait" if told in waits else "halved")
        self.assertEqual(sorts, {"none", "a wait", "halved"})

    def test_waits_that_are_halved_again_and_again(self):
        for times in [1, 2, 3, 5, 7]:
            far = 4 * 2 ** times - 1
            waits = [4] + [far] * (2 * 2 ** times)
            with self.subTest(times=times):
                self.assertEqual(best_base(waits), 3)
                self.assertEqual(best_base([far, 2 * far + 1] + waits[:-2]), 3)
                self.assertIsNone(best_base(waits + [far]))

    def test_three_hundred_waits(self):
        self.assertEqual(best_base([300] * 300), 300)
        self.assertIsNone(best_base([299] * 300))
        self.assertEqual(best_base(list(range(301, 601))), 301)
        self.assertEqual(best_base(list(range(GREAT - 299, GREAT + 1))), GREAT - 299)
        self.assertEqual(best_base([2 ** number for number in range(1, 301)]), 2)

    def test_what_is_handed_in_stays_as_it_was(self):
        waits = [7, 4, 7, 7, 7]
        self.assertEqual(best_base(waits), 3)
        self.assertEqual(waits, [7, 4, 7, 7, 7])


class WheelFor(unittest.TestCase):
    def fits(self, waits):
        """Asks for the wheel, sees that it is one with the right periods, and tells it."""
        was = list(waits)
        told = wheel_for(waits)
        self.assertEqual(waits, was)
        self.assertIs(type(told), tuple)
        base, wheel = told
        self.assertEqual(base, best_base(waits))
        self.assertIs(type(wheel), list)
        self.assertEqual([type(row) for row in wheel], [tuple] * len(was))
        self.assertEqual([row[0] for row in wheel], plain_doublings(waits, base))
        self.assertEqual(wheel_of(wheel), wheel)
        return wheel

    def test_small_waits_against_a_search_over_every_base(self):
        for waits in some_waits():
            if plain_best_base(waits) is None:
                self.assertIsNone(wheel_for(waits))
            else:
                self.fits(waits)

    def test_each_is_called_in_any_turns_as_many_as_its_wait(self):
        for waits in [[1], [3], [2, 2], [2, 5, 5], [4, 7, 7, 7, 7], [5, 7, 9, 15], [3, 3, 3], [9, 3, 20, 6, 40],
                      [11, 12, 13, 14, 15, 16], [4, 6, 6, 6, 6], [2, 4, 8, 16, 32, 64, 64]]:
            wheel = self.fits(waits)
            for who, wait in enumerate(waits):
                with self.subTest(waits=waits, who=who):
                    self.assertLess(longest_silence(wheel, who, 3 * max(row[0] for row in wheel)), wait)

    def test_each_is_called_so_from_a_far_turn_on_too(self):
        waits = [4, 7, 7, 7, 7, 10 ** 99]
        self.assertIsNone(wheel_for(waits))
        waits = [4, 7, 7, 7, 10 ** 99, GREAT]
        wheel = self.fits(waits)
        for begin in [0, 1, 5, 10 ** 98, GREAT - 3]:
            for who, wait in enumerate(waits):
                with self.subTest(begin=begin, who=who):
                    self.assertLess(next_turn(wheel, who, begin), begin + wait)
                    self.assertGreaterEqual(called_times(wheel, who, begin, begin + wait), 1)

    def test_a_wheel_wherever_the_shares_come_to_no_more_than_a_half(self):
        just = 0
        for waits in some_waits():
            if plain_shares(waits) <= HALF:
                just += plain_shares(waits) == HALF
                if wheel_for(waits) is None:
                    self.fail(f"{waits}")
        self.assertGreater(just, 5)

    def test_shares_of_a_half_and_doublings_hardly_above_the_half_of_the_waits(self):
        halves = [[600] * 300, [2 * GREAT] * 2, [2], [4] + [2 ** number for number in range(3, 300)] + [2 ** 299]]
        hardly = [[2 * base] + [4 * base - 1] * (2 * base - 3) for base in [2, 3, 5, 17, 100]]
        for waits in halves + hardly:
            with self.subTest(waits=waits):
                self.assertLessEqual(plain_shares(waits), HALF)
                self.fits(waits)

    def test_three_hundred_waits(self):
        self.fits([300] * 300)
        self.fits(list(range(301, 601)))
        self.fits(list(range(GREAT - 299, GREAT + 1)))
        self.fits([2 ** number for number in range(1, 301)])
        self.fits([2 ** number - 1 for number in range(2, 302)])

    def test_one_wait(self):
        for wait in [1, 2, 3, 10, GREAT]:
            self.assertEqual(wheel_for([wait])[0], wait)
            self.fits([wait])

    def test_what_is_told_is_the_askers_own(self):
        waits = [2, 5, 5]
        told = wheel_for(waits)
        again = wheel_for(waits)
        told[1].clear()
        self.assertEqual(wheel_for(waits), again)
        waits.clear()
        self.assertEqual([row[0] for row in again[1]], [2, 4, 4])


class TooMuchInSum(unittest.TestCase):
    def test_against_the_words_of_the_document(self):
        for waits in some_waits():
            told = too_much(waits)
            if told != (math.lcm(*waits) if plain_shares(waits) > 1 else None):
                self.fail(f"{waits}: {told}")

    def test_just_1(self):
        for waits in [[1], [2, 2], [2, 3, 6], [2, 4, 8, 8], [3, 3, 3], [2, 4, 6, 12], [300] * 300]:
            with self.subTest(waits=waits):
                self.assertIsNone(too_much(waits))
                self.assertEqual(too_much(waits + [7]), math.lcm(*waits, 7))

    def test_no_waits(self):
        self.assertIsNone(too_much([]))

    def test_numbers_of_a_hundred_figures(self):
        self.assertIsNone(too_much([GREAT]))
        self.assertEqual(too_much([1, GREAT]), GREAT)
        self.assertEqual(too_much([2, 2, GREAT, GREAT - 1]), GREAT * (GREAT - 1))
        self.assertEqual(too_much([2, 2, 2 ** 300]), 2 ** 300)
        self.assertIsNone(too_much([2, 3, 7, 43, 1806]))
        self.assertIsNone(too_much([2, 3, 7, 43, 10 ** 99]))
        self.assertEqual(too_much([2, 3, 6, 10 ** 99]), math.lcm(6, 10 ** 99))

    def test_three_hundred_numbers_of_a_hundred_figures(self):
        many = [GREAT - 7 * number for number in range(299)]
        self.assertEqual(too_much([1] + many), math.lcm(*many))
        self.assertIsNone(too_much([2] + many))

    def test_every_row_of_calls_breaks_a_listener_within_these_turns(self):
        pairs = itertools.product(range(1, 5), repeat=2)
        for waits in itertools.chain(pairs, itertools.product(range(1, 6), repeat=3)):
            told = too_much(list(waits))
            if told is not None:
                rank = plain_ranks((waits, None)).get((waits, 0))
                if rank is None or rank > told:
                    self.fail(f"{waits}: {told}, {rank}")

    def test_the_list_stays_as_handed_in(self):
        waits = [2, 2, 3]
        self.assertEqual(too_much(waits), 6)
        self.assertEqual(waits, [2, 2, 3])


if __name__ == "__main__":
    unittest.main()
