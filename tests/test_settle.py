"""Points 2, 3, 8, 12 and 13 and the interface of roundcall.settle."""

import inspect
import unittest

from roundcall import settle
from roundcall.errors import NoListener, TooMany
from roundcall.halls import after, beginning, hall_of, how_many, may_lose, standings
from roundcall.settle import best_call, ranks, worst_answer
from tests.plain import (
    GREAT, plain_best, plain_call_worth, plain_ranks, plain_worst, small_halls, what_the_road_can_do,
)


class Interface(unittest.TestCase):
    def test_names_and_arguments(self):
        forms = {
            "ranks": "(hall)",
            "best_call": "(hall, table, standing)",
            "worst_answer": "(hall, table, standing, who)",
        }
        for name, form in forms.items():
            with self.subTest(name=name):
                self.assertEqual(str(inspect.signature(getattr(settle, name))), form)


class Ranks(unittest.TestCase):
    def test_written_out_tables(self):
        self.assertEqual(ranks(((1,), None)), {})
        self.assertEqual(ranks(((4,), None)), {})
        self.assertEqual(ranks(((1,), 1)), {((1,), 0): 1, ((1,), 1): 2})
        self.assertEqual(ranks(((2,), 1)), {((1,), 0): 1})
        self.assertEqual(ranks(((1, 1), None)), {((1, 1), 0): 1})
        self.assertEqual(ranks(((2, 2), None)), {((1, 1), 0): 1})
        self.assertEqual(ranks(((1, 3), None)), {((1, 1), 0): 1, ((1, 2), 0): 2, ((1, 3), 0): 3})
        self.assertEqual(
            ranks(((2, 2), 1)),
            {((1, 1), 0): 1, ((1, 1), 1): 1, ((1, 2), 0): 1, ((2, 1), 0): 1, ((2, 2), 0): 2,
             ((1, 2), 1): 2, ((2, 1), 1): 2, ((2, 2), 1): 2},
        )

    def test_small_halls_against_the_words_of_the_document(self):
        for hall in small_halls():
            with self.subTest(hall=hall):
                self.assertEqual(ranks(hall), plain_ranks(hall))

    def test_a_rank_is_a_whole_number_from_1_on_and_safe_ones_are_left_out(self):
        hall = hall_of([2, 3, 4], 2)
        table = ranks(hall)
        self.assertIs(type(table), dict)
        for standing, rank in table.items():
            self.assertIs(type(rank), int)
            self.assertGreaterEqual(rank, 1)
            self.assertIn(standing, standings(hall))
        safe = ranks(hall_of([3, 3, 3]))
        self.assertNotIn(((3, 3, 3), 0), safe)
        self.assertNotIn(((1, 2, 3), 0), safe)
        self.assertEqual(safe[((1, 1, 3), 0)], 1)
        self.assertNotIn(None, safe.values())

    def test_halls_of_just_three_thousand_standings_are_settled(self):
        for hall in [hall_of([10, 10, 5], 5), hall_of([5, 5, 5, 2, 3, 2], 1), hall_of([2, 5, 5, 60])]:
            with self.subTest(hall=hall):
                self.assertEqual(how_many(hall), 3000)
                self.assertEqual(ranks(hall), plain_ranks(hall))
        self.assertEqual(ranks(hall_of([3000])), {})
        self.assertEqual(ranks(hall_of([1500], 1)), {((1,), 0): 1})

    def test_ranks_as_great_as_three_thousand(self):
        row = ranks(hall_of([1, 3000]))
        self.assertEqual(row, {((1, left), 0): left for left in range(1, 3001)})
        calm = ranks(hall_of([1], 2999))
        self.assertEqual(calm, {((1,), quiet): quiet + 1 for quiet in range(3000)})

    def test_more_than_three_thousand_are_refused(self):
        for waits, calm in [
            ([3001], None), ([1501], 1), ([1000], 3), ([1], 3000), ([10, 10, 5], 6), ([4, 4, 4, 4, 4, 3], None),
            ([3] * 8, None), ([2] * 8, 11), ([GREAT], None), ([1], GREAT), ([GREAT] * 8, GREAT), ([1, GREAT], None),
        ]:
            with self.subTest(waits=waits, calm=calm):
                with self.assertRaises(TooMany):
                    ranks(hall_of(waits, calm))

    def test_the_dict_is_the_askers_own(self):
        hall = hall_of([2, 3], 1)
        one = ranks(hall)
        was = dict(one)
        other = ranks(hall)
        one.clear()
        one[beginning(hall)] = 77
        self.assertEqual(other, was)
        self.assertEqual(ranks(hall), was)


class BestCall(unittest.TestCase):
    def test_small_halls_against_the_words_of_the_document(self):
        for hall in small_halls():
            table = plain_ranks(hall)
            for standing in standings(hall):
                with self.subTest(hall=hall, standing=standing):
                    self.assertEqual(best_call(hall, table, standing), plain_best(hall, table, standing))

    def test_the_first_of_several(self):
        hall = hall_of([3, 3, 3])
        self.assertEqual(best_call(hall, ranks(hall), beginning(hall)), 0)
        self.assertEqual(best_call(hall, ranks(hall), ((3, 1, 1), 0)), 0)
        self.assertEqual(best_call(hall, ranks(hall), ((2, 2, 1), 0)), 2)
        two = hall_of([1, 1])
        self.assertEqual(best_call(two, ranks(two), beginning(two)), 0)

    def test_the_one_that_holds_longest_where_none_is_safe(self):
        hall = hall_of([4, 1, 1, 1])
        self.assertEqual(best_call(hall, ranks(hall), beginning(hall)), 0)
        hall = hall_of([4, 1])
        self.assertEqual(best_call(hall, ranks(hall), beginning(hall)), 1)
        hall = hall_of([3, 3], 1)
        table = ranks(hall)
        self.assertEqual(table[((3, 2), 1)], 4)
        self.assertEqual(best_call(hall, table, ((3, 2), 1)), 1)

    def test_safe_is_worth_more_than_every_rank(self):
        hall = hall_of([5000, 5000])
        later = ((4999, 5000), 0)
        self.assertEqual(best_call(hall, {((5000, 4999), 0): GREAT}, beginning(hall)), 1)
        self.assertEqual(best_call(hall, {later: GREAT}, beginning(hall)), 0)
        self.assertEqual(best_call(hall, {later: GREAT, ((5000, 4999), 0): GREAT - 1}, beginning(hall)), 1)

    def test_a_rank_is_worth_more_than_a_break(self):
        hall = hall_of([2, 2, 1], 3)
        self.assertEqual(best_call(hall, ranks(hall), ((2, 2, 1), 1)), 2)

    def test_from_a_safe_standing_it_leads_to_safe_ones(self):
        seen = 0
        for hall in small_halls():
            table = ranks(hall)
            for standing in standings(hall):
                if standing not in table:
                    who = best_call(hall, table, standing)
                    for lost in what_the_road_can_do(hall, standing):
                        seen += 1
                        behind = after(hall, standing, who, lost)
                        self.assertIsNotNone(behind)
                        self.assertNotIn(behind, table)
        self.assertGreater(seen, 500)

    def test_from_another_standing_it_is_worth_one_less_than_its_rank(self):
        for hall in small_halls():
            table = ranks(hall)
            for standing, rank in table.items():
                who = best_call(hall, table, standing)
                with self.subTest(hall=hall, standing=standing):
                    self.assertEqual(plain_call_worth(hall, table, standing, who), rank - 1)

    def test_a_whole_number_is_told_and_the_table_stays(self):
        for hall in [hall_of([2, 3], 1), hall_of([3, 3, 3]), hall_of([1, 4])]:
            table = ranks(hall)
            was = list(table.items())
            for standing in standings(hall):
                self.assertIs(type(best_call(hall, table, standing)), int)
            self.assertEqual(list(table.items()), was)


class WorstAnswer(unittest.TestCase):
    def test_small_halls_against_the_words_of_the_document(self):
        told = {True: 0, False: 0}
        for hall in small_halls():
            table = plain_ranks(hall)
            for standing in standings(hall):
                for who in range(len(hall[0])):
                    answer = worst_answer(hall, table, standing, who)
                    told[answer] += 1
                    with self.subTest(hall=hall, standing=standing, who=who):
                        self.assertIs(type(answer), bool)
                        self.assertIs(answer, plain_worst(hall, table, standing, who))
        self.assertGreater(told[True], 100)
        self.assertGreater(told[False], 100)

    def test_losing_is_chosen_only_where_it_is_worth_less(self):
        hall = hall_of([2], 1)
        table = ranks(hall)
        self.assertIs(worst_answer(hall, table, ((1,), 0), 0), True)
        self.assertIs(worst_answer(hall, table, ((2,), 0), 0), False)
        both = hall_of([1, 1], 1)
        self.assertIs(worst_answer(both, ranks(both), ((1, 1), 0), 0), False)
        self.assertIs(worst_answer(both, ranks(both), ((1, 1), 0), 1), False)
        easy = hall_of([9], 5)
        self.assertIs(worst_answer(easy, ranks(easy), ((9,), 0), 0), False)

    def test_letting_through_where_that_is_worth_less(self):
        hall = hall_of([9, 9], 3)
        reached, lost = ((9, 8), 0), ((8, 8), 3)
        self.assertIs(worst_answer(hall, {reached: 4}, beginning(hall), 0), False)
        self.assertIs(worst_answer(hall, {reached: 4, lost: 5}, beginning(hall), 0), False)
        self.assertIs(worst_answer(hall, {reached: 5, lost: 5}, beginning(hall), 0), False)
        self.assertIs(worst_answer(hall, {reached: 5, lost: 4}, beginning(hall), 0), True)
        self.assertIs(worst_answer(hall, {lost: GREAT}, beginning(hall), 0), True)

    def test_true_only_where_the_road_may_lose(self):
        seen = 0
        for hall in small_halls():
            table = ranks(hall)
            for standing in standings(hall):
                if not may_lose(hall, standing):
                    for who in range(len(hall[0])):
                        seen += 1
                        self.assertIs(worst_answer(hall, table, standing, who), False)
        self.assertGreater(seen, 500)

    def test_no_listener(self):
        for hall in [hall_of([3]), hall_of([3], 1), hall_of([2, 2, 2]), hall_of([2, 3], 2), hall_of([1] * 8, 1)]:
            table = ranks(hall)
            number = len(hall[0])
            for standing in standings(hall):
                for who in [-1, -number, number, number + 1, 10 ** 9, GREAT, -GREAT]:
                    with self.subTest(hall=hall, standing=standing, who=who):
                        with self.assertRaises(NoListener):
                            worst_answer(hall, table, standing, who)

    def test_the_table_stays_as_handed_in(self):
        for hall in [hall_of([2, 3], 1), hall_of([3, 3, 3]), hall_of([2, 2, 2], 2)]:
            table = ranks(hall)
            was = list(table.items())
            for standing in standings(hall):
                for who in range(len(hall[0])):
                    worst_answer(hall, table, standing, who)
                with self.assertRaises(NoListener):
                    worst_answer(hall, table, standing, len(hall[0]))
            self.assertEqual(list(table.items()), was)

    def test_the_table_is_not_kept(self):
        hall = hall_of([2], 1)
        table = ranks(hall)
        standing = ((2,), 0)
        self.assertIs(worst_answer(hall, table, standing, 0), False)
        table[((1,), 1)] = 3
        self.assertIs(worst_answer(hall, table, standing, 0), True)
        table.pop(((1,), 1))
        self.assertIs(worst_answer(hall, table, standing, 0), False)


class BothTogether(unittest.TestCase):
    def test_best_calls_against_worst_answers_break_just_in_the_turn_of_the_rank(self):
        for hall in small_halls():
            table = ranks(hall)
            for standing, rank in table.items():
                turns = 0
                here = standing
                while here is not None:
                    who = best_call(hall, table, here)
                    here = after(hall, here, who, worst_answer(hall, table, here, who))
                    turns += 1
                with self.subTest(hall=hall, standing=standing):
                    self.assertEqual(turns, rank)


if __name__ == "__main__":
    unittest.main()
