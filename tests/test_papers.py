"""Points 2, 3, 4, 14 and 15 and the interface of roundcall.papers."""

import inspect
import itertools
import unittest

from roundcall import papers
from roundcall.checks import lets_broken, lets_kept
from roundcall.errors import TooMany
from roundcall.halls import after, beginning, hall_of, how_many
from roundcall.papers import broken_paper, kept_paper
from roundcall.settle import best_call, ranks
from tests.plain import (
    GREAT, come_to, plain_best, plain_ranks, plain_worst, small_halls, turn, what_the_road_can_do,
)

# All of just three thousand standings; those with long ways are too much for the plain reckoning.
QUICK_HALLS = [((3000,), None), ((1500,), 1), ((10, 10, 5), 5), ((5, 5, 5, 2, 3, 2), 1)]
FULL_HALLS = QUICK_HALLS + [((1, 3000), None), ((1,), 2999), ((3, 1000), None), ((10, 100), 2)]
TOO_GREAT = [
    ((3001,), None), ((1501,), 1), ((1,), 3000), ((10, 10, 5), 6), ((1, 1, 3001), None), ((3,) * 8, None),
    ((GREAT,), None), ((1,), GREAT), ((GREAT,) * 8, GREAT), ((1, 1, GREAT), None),
]


def plain_kept(hall):
    table = plain_ranks(hall)
    if (hall[0], 0) in table:
        return None

    def turns(standing):
        who = plain_best(hall, table, standing)
        return [(who, lost) for lost in what_the_road_can_do(hall, standing)]

    return sorted((standing, plain_best(hall, table, standing)) for standing in come_to(hall, turns))


def plain_broken(hall):
    table = plain_ranks(hall)
    if (hall[0], 0) not in table:
        return None

    def turns(standing):
        return [(who, plain_worst(hall, table, standing, who)) for who in range(len(hall[0]))]

    return sorted(
        (standing, table[standing], tuple(lost for who, lost in turns(standing)))
        for standing in come_to(hall, turns)
    )


class Interface(unittest.TestCase):
    def test_names_and_arguments(self):
        for name in ["kept_paper", "broken_paper"]:
            with self.subTest(name=name):
                self.assertEqual(str(inspect.signature(getattr(papers, name))), "(hall)")


class OneOfTwo(unittest.TestCase):
    def test_just_one_is_none_and_the_checker_of_its_sort_lets_the_other_by(self):
        sorts = {True: 0, False: 0}
        for hall in list(small_halls()) + FULL_HALLS:
            kept, broken = kept_paper(hall), broken_paper(hall)
            sorts[kept is None] += 1
            with self.subTest(hall=hall):
                self.assertEqual([kept is None, broken is None].count(True), 1)
                self.assertEqual(kept is None, beginning(hall) in ranks(hall))
                if kept is not None:
                    self.assertTrue(lets_kept(hall, kept))
                else:
                    self.assertTrue(lets_broken(hall, broken))
        self.assertGreater(sorts[True], 20)
        self.assertGreater(sorts[False], 20)

    def test_a_listener_by_itself(self):
        self.assertEqual(kept_paper(hall_of([1])), [(((1,), 0), 0)])
        self.assertIsNone(broken_paper(hall_of([1])))
        self.assertIsNone(kept_paper(hall_of([1], 1)))
        self.assertEqual(broken_paper(hall_of([1], 1)), [(((1,), 0), 1, (True,))])

    def test_halls_of_more_standings_are_refused(self):
        for hall in TOO_GREAT:
            for ask in [kept_paper, broken_paper]:
                with self.subTest(hall=hall, ask=ask.__name__):
                    with self.assertRaises(TooMany):
                        ask(hall)

    def test_halls_of_just_three_thousand_are_not(self):
        for hall in QUICK_HALLS:
            with self.subTest(hall=hall):
                self.assertEqual(how_many(hall), 3000)
                self.assertEqual(kept_paper(hall), plain_kept(hall))
                self.assertEqual(broken_paper(hall), plain_broken(hall))


class KeptPaper(unittest.TestCase):
    def test_written_out_papers(self):
        self.assertEqual(
            kept_paper(hall_of([2, 2])),
            [(((1, 2), 0), 0), (((2, 1), 0), 1), (((2, 2), 0), 0)],
        )
        self.assertEqual(kept_paper(hall_of([2], 1)), [(((1,), 1), 0), (((2,), 0), 0)])
        self.assertEqual(
            kept_paper(hall_of([2], 3)),
            [(((1,), 3), 0), (((2,), 0), 0), (((2,), 1), 0), (((2,), 2), 0)],
        )

    def test_small_halls_against_the_words_of_the_document(self):
        for hall in small_halls():
            with self.subTest(hall=hall):
                self.assertEqual(kept_paper(hall), plain_kept(hall))

    def test_sorted_with_the_beginning_in_it_and_nothing_twice(self):
        for hall in [hall_of([3, 3, 3]), hall_of([6, 6], 7), hall_of([10, 10, 5], 5)]:
            paper = kept_paper(hall)
            told = [standing for standing, who in paper]
            self.assertIs(type(paper), list)
            self.assertEqual(paper, sorted(paper))
            self.assertEqual(told.count(beginning(hall)), 1)
            self.assertEqual(len(told), len(set(told)))
            self.assertTrue(all(type(row) is tuple and type(row[1]) is int for row in paper))

    def test_no_other_standings_than_those_that_can_be_come_to(self):
        self.assertEqual(kept_paper(hall_of([3000])), [(((3000,), 0), 0)])
        paper = kept_paper(hall_of([10, 10, 5], 5))
        self.assertLess(len(paper), 3000)

    def test_whoever_calls_by_it_never_breaks_a_listener(self):
        for hall in [hall_of([3, 3, 3]), hall_of([6, 6], 7), hall_of([4, 4], 2), hall_of([4, 8, 5], 5)]:
            calls = dict(kept_paper(hall))
            for wish in itertools.product([False, True], repeat=8):
                here = beginning(hall)
                for lost in (wish * 4)[:30]:
                    here = turn(hall, here, calls[here], lost and lost in what_the_road_can_do(hall, here))
                    self.assertIsNotNone(here)

    def test_the_paper_is_the_askers_own(self):
        hall = hall_of([4, 4], 2)
        one = kept_paper(hall)
        was = list(one)
        other = kept_paper(hall)
        one.reverse()
        one.pop()
        self.assertEqual(other, was)
        self.assertEqual(kept_paper(hall), was)


class BrokenPaper(unittest.TestCase):
    def test_written_out_papers(self):
        self.assertEqual(broken_paper(hall_of([1, 1])), [(((1, 1), 0), 1, (False, False))])
        self.assertEqual(
            broken_paper(hall_of([1, 2])),
            [(((1, 1), 0), 1, (False, False)), (((1, 2), 0), 2, (False, False))],
        )
        self.assertEqual(
            broken_paper(hall_of([2, 2], 1)),
            [(((1, 2), 0), 1, (True, False)), (((2, 1), 0), 1, (False, True)), (((2, 2), 0), 2, (False, False))],
        )

    def test_small_halls_against_the_words_of_the_document(self):
        for hall in small_halls():
            with self.subTest(hall=hall):
                self.assertEqual(broken_paper(hall), plain_broken(hall))

    def test_sorted_with_the_beginning_in_it_and_a_truth_for_each_listener(self):
        for hall in [hall_of([1, 3000]), hall_of([2, 4, 4, 2], 1), hall_of([2] * 8, 3), hall_of([3, 3], 1)]:
            paper = broken_paper(hall)
            told = [row[0] for row in paper]
            self.assertIs(type(paper), list)
            self.assertEqual(paper, sorted(paper))
            self.assertEqual(told.count(beginning(hall)), 1)
            self.assertEqual(len(told), len(set(told)))
            for row in paper:
                self.assertEqual([type(part) for part in row], [tuple, int, tuple])
                self.assertEqual([type(answer) for answer in row[2]], [bool] * len(hall[0]))

    def test_a_long_one(self):
        told = broken_paper(hall_of([1, 3000]))
        self.assertEqual(told, [(((1, left), 0), left, (False, False)) for left in range(1, 3001)])

    def test_whoever_loses_by_it_breaks_a_listener_in_time(self):
        for hall in [hall_of([1, 4]), hall_of([3, 3], 1), hall_of([2, 2, 2]), hall_of([3, 3, 3], 4), hall_of([1, 3], 5)]:
            rows = {standing: (rank, answers) for standing, rank, answers in broken_paper(hall)}
            within = rows[beginning(hall)][0]
            for calls in itertools.product(range(len(hall[0])), repeat=within):
                here = beginning(hall)
                for who in calls:
                    if here is not None:
                        here = turn(hall, here, who, rows[here][1][who])
                with self.subTest(hall=hall, calls=calls):
                    self.assertIsNone(here)

    def test_against_the_best_calls_no_sooner_than_in_the_last_turn(self):
        for hall in list(small_halls()) + FULL_HALLS:
            paper = broken_paper(hall)
            if paper is not None:
                rows = {standing: (rank, answers) for standing, rank, answers in paper}
                table = ranks(hall)
                here = beginning(hall)
                turns = 0
                while here is not None:
                    who = best_call(hall, table, here)
                    here = after(hall, here, who, rows[here][1][who])
                    turns += 1
                with self.subTest(hall=hall):
                    self.assertEqual(turns, rows[beginning(hall)][0])

    def test_the_paper_is_the_askers_own(self):
        hall = hall_of([3, 3], 1)
        one = broken_paper(hall)
        was = list(one)
        other = broken_paper(hall)
        one.reverse()
        one.pop()
        self.assertEqual(other, was)
        self.assertEqual(broken_paper(hall), was)


if __name__ == "__main__":
    unittest.main()
