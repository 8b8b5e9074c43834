"""Points 2, 10 and 11 and the interface of roundcall.rounds."""

import inspect
import itertools
import unittest

from roundcall import rounds
from roundcall.errors import NoListener, NoLoss
from roundcall.halls import after, beginning, hall_of
from roundcall.rounds import keeps, longest, walked

GREAT = 10 ** 100 - 1


class Interface(unittest.TestCase):
    def test_names_and_arguments(self):
        forms = {
            "walked": "(hall, standing, calls, losses)",
            "longest": "(calls, who)",
            "keeps": "(hall, calls)",
        }
        for name, form in forms.items():
            with self.subTest(name=name):
                self.assertEqual(str(inspect.signature(getattr(rounds, name))), form)


class WhatIsHandedIn(unittest.TestCase):
    def test_the_lists_of_a_walk_stay_as_they_were_and_are_not_kept(self):
        hall = hall_of([4, 4], 1)
        calls = [0, 1, 1]
        losses = [True, False, False]
        told = walked(hall, beginning(hall), calls, losses)
        self.assertEqual(calls, [0, 1, 1])
        self.assertEqual(losses, [True, False, False])
        calls.clear()
        losses.clear()
        self.assertEqual(told, (3, ((1, 4), 0)))

    def test_the_list_of_a_round_stays_as_it_was(self):
        calls = [2, 0, 1, 0]
        self.assertEqual(longest(calls, 0), 2)
        self.assertTrue(keeps(hall_of([2, 4, 4]), calls))
        self.assertEqual(calls, [2, 0, 1, 0])
        calls.append(1)
        self.assertEqual(longest(calls, 0), 3)
        self.assertFalse(keeps(hall_of([2, 4, 4]), calls))

    def test_great_numbers_are_answered_like_small_ones(self):
        hall = hall_of([GREAT, 2], GREAT)
        told = walked(hall, beginning(hall), [0, 1, 1], [True, False, False])
        self.assertEqual(told, (3, ((GREAT - 3, 2), GREAT - 2)))
        self.assertEqual(longest([GREAT, 0, GREAT, 0, 0], GREAT), 3)
        self.assertIsNone(longest([0, 1], GREAT))
        self.assertIs(keeps(hall, [0, 1]), True)
        self.assertIs(keeps(hall, [0, 1, 1]), True)
        self.assertIs(keeps(hall, [0, 1, 0]), False)
        with self.assertRaises(NoListener):
            walked(hall, beginning(hall), [GREAT], [False])


class Walks(unittest.TestCase):
    def test_a_walk_without_turns(self):
        hall = hall_of([3, 2], 2)
        self.assertEqual(walked(hall, ((1, 2), 1), [], []), (0, ((1, 2), 1)))
        self.assertEqual(walked(hall, beginning(hall), [], []), (0, ((3, 2), 0)))

    def test_through_all_turns_without_losses(self):
        hall = hall_of([3, 2])
        self.assertEqual(walked(hall, ((3, 2), 0), [0], [False]), (1, ((3, 1), 0)))
        told = walked(hall, ((3, 2), 0), [0, 1, 1, 0, 1], [False] * 5)
        self.assertEqual(told, (5, ((2, 2), 0)))
        self.assertIs(type(told), tuple)

    def test_through_all_turns_with_losses(self):
        hall = hall_of([5, 6], 2)
        told = walked(hall, ((5, 6), 0), [0, 0, 1, 1, 0], [True, False, False, True, False])
        self.assertEqual(told, (5, ((5, 4), 1)))

    def test_a_walk_of_three_hundred_turns(self):
        hall = hall_of([2, 3])
        self.assertEqual(walked(hall, beginning(hall), [0, 1] * 150, [False] * 300), (300, ((1, 3), 0)))

    def test_it_is_the_turns_one_by_one(self):
        hall = hall_of([3, 4], 1)
        for calls in itertools.product([0, 1], repeat=4):
            for losses in [(False,) * 4, (True, False, False, False), (False, True, False, False)]:
                here = ((3, 4), 0)
                turns = 0
                for who, lost in zip(calls, losses):
                    here = after(hall, here, who, lost)
                    if here is None:
                        break
                    turns += 1
                self.assertEqual(walked(hall, ((3, 4), 0), list(calls), list(losses)), (turns, here))

    def test_broken_in_the_first_turn(self):
        self.assertEqual(walked(hall_of([3, 3]), ((1, 2), 0), [1, 0, 1], [False] * 3), (0, None))
        self.assertEqual(walked(hall_of([1], 1), ((1,), 0), [0, 0], [True, False]), (0, None))

    def test_broken_amid_the_walk(self):
        self.assertEqual(walked(hall_of([2, 9]), ((2, 9), 0), [1, 1, 0, 0], [False] * 4), (1, None))
        self.assertEqual(
            walked(hall_of([3, 9], 1), ((3, 9), 0), [1, 1, 0, 0], [False, False, True, False]), (2, None)
        )

    def test_broken_in_the_last_turn(self):
        self.assertEqual(walked(hall_of([3, 9]), ((3, 9), 0), [1, 1, 1], [False] * 3), (2, None))
        self.assertEqual(walked(hall_of([3, 9]), ((1, 9), 0), [1], [False]), (0, None))

    def test_a_refused_turn_ahead_of_a_break(self):
        hall = hall_of([3, 9], 5)
        for who in [-1, 2, 77]:
            with self.assertRaises(NoListener):
                walked(hall, beginning(hall), [1, who, 1, 1], [False] * 4)
        with self.assertRaises(NoLoss):
            walked(hall, beginning(hall), [1, 0, 1, 1], [True, True, False, False])
        with self.assertRaises(NoLoss):
            walked(hall_of([3, 9]), ((3, 9), 0), [1, 1, 1], [True, False, False])

    def test_a_refused_turn_in_the_very_turn_of_a_break(self):
        hall = hall_of([2, 9], 5)
        for lost in [False, True]:
            with self.assertRaises(NoListener):
                walked(hall, beginning(hall), [1, 2], [True, lost])
        with self.assertRaises(NoLoss):
            walked(hall, beginning(hall), [1, 1], [True, True])
        with self.assertRaises(NoLoss):
            walked(hall_of([1]), ((1,), 0), [0], [True])

    def test_the_walk_does_not_come_to_a_wrong_turn_behind_a_break(self):
        hall = hall_of([2, 9], 5)
        self.assertEqual(walked(hall, beginning(hall), [1, 1, 2], [False] * 3), (1, None))
        self.assertEqual(walked(hall, beginning(hall), [1, 1, -1], [False, False, True]), (1, None))
        self.assertEqual(walked(hall, beginning(hall), [1, 1, 0], [True, False, True]), (1, None))
        self.assertEqual(walked(hall_of([2, 9]), ((2, 9), 0), [1, 1, 0], [False, False, True]), (1, None))

    def test_a_wrong_turn_at_the_end_of_a_walk(self):
        hall = hall_of([9, 9])
        with self.assertRaises(NoListener):
            walked(hall, beginning(hall), [0, 1, 2], [False] * 3)
        with self.assertRaises(NoLoss):
            walked(hall, beginning(hall), [0, 1, 1], [False, False, True])


class LongestWaits(unittest.TestCase):
    def test_called_once(self):
        for place in range(4):
            calls = [1, 1, 1, 1]
            calls[place] = 0
            self.assertEqual(longest(calls, 0), 4)
        self.assertEqual(longest([0], 0), 1)

    def test_called_several_times(self):
        self.assertEqual(longest([0, 1, 0, 1, 1, 0], 0), 3)
        self.assertEqual(longest([1, 0, 1, 1, 1, 0, 1], 0), 4)
        self.assertEqual(longest([0, 1, 1, 1, 0, 1], 0), 4)

    def test_called_side_by_side(self):
        self.assertEqual(longest([0, 0, 1, 1], 0), 3)
        self.assertEqual(longest([1, 0, 0, 1, 1, 0], 0), 3)

    def test_called_in_all_turns(self):
        self.assertEqual(longest([3, 3, 3], 3), 1)

    def test_never_called(self):
        self.assertIsNone(longest([0, 1, 0], 2))

    def test_the_round_without_calls(self):
        self.assertIsNone(longest([], 0))
        self.assertIsNone(longest([], 12))

    def test_numbers_greater_than_eight(self):
        self.assertEqual(longest([9, 400, 9, 9, 400], 400), 3)
        self.assertEqual(longest([9, 400, 9, 9, 400], 9), 2)

    def test_the_way_round_from_the_last_call_to_the_first(self):
        self.assertEqual(longest([1, 1, 0, 0, 1, 1], 0), 5)
        self.assertEqual(longest([0, 0, 1, 1, 1, 1], 0), 5)
        self.assertEqual(longest([1, 1, 1, 1, 0, 0], 0), 5)
        self.assertEqual(longest([0, 1, 1, 0], 0), 3)

    def test_a_round_of_three_hundred_calls(self):
        self.assertEqual(longest([0] + [1] * 298 + [0], 0), 299)
        self.assertEqual(longest([0] + [1] * 299, 0), 300)

    def test_turning_the_round_changes_nothing(self):
        for calls in itertools.product([0, 1, 2], repeat=5):
            turned = list(calls[1:] + calls[:1])
            for who in [0, 1, 2]:
                self.assertEqual(longest(list(calls), who), longest(turned, who))


class Keeping(unittest.TestCase):
    def test_a_round_that_just_keeps_a_hall(self):
        self.assertIs(keeps(hall_of([2, 4, 4]), [0, 1, 0, 2]), True)
        self.assertIs(keeps(hall_of([1]), [0]), True)
        self.assertIs(keeps(hall_of([3, 3, 3]), [2, 0, 1]), True)

    def test_a_round_that_misses_by_one_turn(self):
        for waits in [[1, 4, 4], [2, 3, 4], [2, 4, 3]]:
            with self.subTest(waits=waits):
                self.assertIs(keeps(hall_of(waits), [0, 1, 0, 2]), False)

    def test_a_round_that_never_calls_a_listener(self):
        self.assertIs(keeps(hall_of([9, 9, 9]), [0, 1, 0]), False)
        self.assertIs(keeps(hall_of([9, 9, 9]), [1, 2]), False)
        self.assertIs(keeps(hall_of([9, 9, 9]), []), False)

    def test_calm_does_not_matter(self):
        for calm in [None, 1, 5]:
            self.assertIs(keeps(hall_of([2, 4, 4], calm), [0, 1, 0, 2]), True)
            self.assertIs(keeps(hall_of([2, 4, 3], calm), [0, 1, 0, 2]), False)

    def test_eight_listeners(self):
        self.assertIs(keeps(hall_of([8] * 8), [7, 6, 5, 4, 3, 2, 1, 0]), True)
        self.assertIs(keeps(hall_of([8] * 7 + [7]), [7, 6, 5, 4, 3, 2, 1, 0]), False)

    def test_a_round_keeps_just_where_its_calls_break_nobody_for_long(self):
        for waits in itertools.product([1, 2, 3, 4], repeat=2):
            hall = hall_of(list(waits))
            for size in [1, 2, 3, 4, 5]:
                for calls in itertools.product([0, 1], repeat=size):
                    kept = keeps(hall, list(calls))
                    for place in range(size):
                        row = list(calls[place:] + calls[:place]) * 9
                        told = walked(hall, beginning(hall), row, [False] * len(row))
                        self.assertEqual(told[1] is not None, kept)


if __name__ == "__main__":
    unittest.main()
