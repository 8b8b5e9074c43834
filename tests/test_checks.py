"""Points 2, 4, 16 and 17 and the interface of roundcall.checks."""

import inspect
import itertools
import unittest

from roundcall import checks
from roundcall.checks import lets_broken, lets_kept
from roundcall.halls import beginning, hall_of
from roundcall.papers import broken_paper, kept_paper
from roundcall.settle import ranks
from tests.plain import GREAT, every_standing, small_halls, turn, what_the_road_can_do


def plain_lets_kept(hall, paper):
    listed = [standing for standing, who in paper]
    if listed.count((hall[0], 0)) != 1 or any(listed.count(standing) > 1 for standing in listed):
        return False
    for standing, who in paper:
        if who not in range(len(hall[0])):
            return False
        if any(turn(hall, standing, who, lost) not in listed for lost in what_the_road_can_do(hall, standing)):
            return False
    return True


def plain_lets_broken(hall, paper):
    listed = [row[0] for row in paper]
    if listed.count((hall[0], 0)) != 1 or any(listed.count(standing) > 1 for standing in listed):
        return False
    for standing, rank, answers in paper:
        if rank < 1 or len(answers) != len(hall[0]):
            return False
        for who, lost in enumerate(answers):
            if lost not in what_the_road_can_do(hall, standing):
                return False
            behind = turn(hall, standing, who, lost)
            if behind is not None and not any(row[0] == behind and row[1] < rank for row in paper):
                return False
    return True


def kept_halls():
    return [hall for hall in small_halls() if kept_paper(hall) is not None]


def broken_halls():
    return [hall for hall in small_halls() if broken_paper(hall) is not None]


class Interface(unittest.TestCase):
    def test_names_and_arguments(self):
        for name in ["lets_kept", "lets_broken"]:
            with self.subTest(name=name):
                self.assertEqual(str(inspect.signature(getattr(checks, name))), "(hall, paper)")


class Kept(unittest.TestCase):
    def test_told_papers_in_any_order(self):
        for hall in kept_halls():
            paper = kept_paper(hall)
            for order in [paper, paper[::-1], paper[1:] + paper[:1], sorted(paper, key=lambda row: sum(row[0][0]))]:
                with self.subTest(hall=hall):
                    self.assertIs(lets_kept(hall, order), True)

    def test_papers_that_nobody_told(self):
        hall = hall_of([3, 3])
        written = [(((3, 3), 0), 1), (((2, 3), 0), 0), (((3, 2), 0), 1)]
        self.assertNotEqual(sorted(written), kept_paper(hall))
        self.assertIs(lets_kept(hall, written), True)
        # A standing that is never come to does no harm, as long as it is kept itself.
        self.assertIs(lets_kept(hall, written + [(((1, 3), 0), 0)]), True)
        self.assertIs(lets_kept(hall, written + [(((1, 3), 0), 1)]), False)
        self.assertIs(lets_kept(hall, written + [(((1, 2), 0), 1)]), False)

    def test_every_paper_of_two_small_halls_against_the_words_of_the_document(self):
        let = 0
        for hall in [hall_of([2, 2]), hall_of([2], 1)]:
            rows = list(itertools.product(every_standing(hall), range(-1, len(hall[0]) + 1)))
            for length in range(4):
                for paper in itertools.product(rows, repeat=length):
                    answer = lets_kept(hall, list(paper))
                    let += answer
                    self.assertIs(answer, plain_lets_kept(hall, paper), (hall, paper))
        self.assertGreater(let, 5)

    def test_without_the_beginning(self):
        for hall in [((2, 2), None), ((3, 3), None), ((2,), 1)]:
            self.assertIs(lets_kept(hall, []), False)
        hall = hall_of([2, 2])
        self.assertIs(lets_kept(hall, [(((1, 2), 0), 0), (((2, 1), 0), 1)]), False)
        hall = hall_of([1, 1], 1)
        self.assertIs(lets_kept(hall, []), False)

    def test_a_standing_twice(self):
        for hall in kept_halls():
            paper = kept_paper(hall)
            for row in paper:
                with self.subTest(hall=hall, row=row):
                    self.assertIs(lets_kept(hall, paper + [row]), False)
                    self.assertIs(lets_kept(hall, [row] + paper), False)

    def test_a_standing_twice_with_two_calls_that_would_do(self):
        hall = hall_of([3, 3])
        table = ranks(hall)
        paper = [(standing, 0) for standing in every_standing(hall) if standing not in table and standing[0][1] > 1]
        paper += [(standing, 1) for standing in every_standing(hall) if standing not in table and standing[0][1] == 1]
        self.assertIs(lets_kept(hall, paper), True)
        self.assertIs(lets_kept(hall, paper + [(((3, 3), 0), 1)]), False)

    def test_a_who_that_is_none(self):
        for hall in kept_halls():
            paper = kept_paper(hall)
            for place, row in enumerate(paper):
                for who in [-1, -len(hall[0]), len(hall[0]), 10 ** 9, GREAT, -GREAT]:
                    with self.subTest(hall=hall, row=row, who=who):
                        other = paper[:place] + [(row[0], who)] + paper[place + 1:]
                        self.assertIs(lets_kept(hall, other), False)

    def test_an_entry_left_out(self):
        # Each one of a told paper is come to, so none can be missed.
        for hall in kept_halls():
            paper = kept_paper(hall)
            for place in range(len(paper)):
                with self.subTest(hall=hall, place=place):
                    self.assertIs(lets_kept(hall, paper[:place] + paper[place + 1:]), False)

    def test_what_is_come_to_only_by_a_loss_is_asked_for(self):
        hall = hall_of([2], 1)
        self.assertIs(lets_kept(hall, [(((2,), 0), 0)]), False)
        self.assertIs(lets_kept(hall, [(((2,), 0), 0), (((1,), 1), 0)]), True)
        self.assertIs(lets_kept(hall_of([2]), [(((2,), 0), 0)]), True)

    def test_a_call_in_which_somebody_may_be_broken(self):
        self.assertIs(lets_kept(hall_of([1, 1]), [(((1, 1), 0), 0)]), False)
        self.assertIs(lets_kept(hall_of([1]), [(((1,), 0), 0)]), True)
        self.assertIs(lets_kept(hall_of([1], 1), [(((1,), 0), 0)]), False)
        self.assertIs(lets_kept(hall_of([1], 1), [(((1,), 0), 0), (((1,), 1), 0)]), False)

    def test_halls_with_very_many_standings(self):
        self.assertIs(lets_kept(hall_of([GREAT]), [(((GREAT,), 0), 0)]), True)
        self.assertIs(lets_kept(hall_of([GREAT]), [(((GREAT - 1,), 0), 0)]), False)
        hall = hall_of([GREAT, GREAT])
        paper = [
            (((GREAT, GREAT), 0), 0), (((GREAT, GREAT - 1), 0), 1), (((GREAT - 1, GREAT), 0), 0),
        ]
        self.assertIs(lets_kept(hall, paper), True)
        self.assertIs(lets_kept(hall, paper[:2]), False)
        hall = hall_of([GREAT], 3)
        paper = [(((GREAT - 1,), 3), 0), (((GREAT,), 0), 0), (((GREAT,), 1), 0), (((GREAT,), 2), 0)]
        self.assertIs(lets_kept(hall, paper), True)
        self.assertIs(lets_kept(hall, paper[1:]), False)
        hall = hall_of([9] * 8)
        paper = [(((9,) * 8, 0), 0)]
        self.assertIs(lets_kept(hall, paper), False)

    def test_a_paper_of_three_thousand(self):
        hall = hall_of([GREAT], 2999)
        paper = [(((GREAT - 1,), 2999), 0)] + [(((GREAT,), quiet), 0) for quiet in range(2999)]
        self.assertEqual(len(paper), 3000)
        self.assertIs(lets_kept(hall, paper), True)
        self.assertIs(lets_kept(hall, paper[:-1]), False)

    def test_the_list_stays_as_handed_in_and_is_not_kept(self):
        hall = hall_of([3, 3])
        paper = kept_paper(hall)[::-1]
        was = list(paper)
        self.assertIs(lets_kept(hall, paper), True)
        self.assertEqual(paper, was)
        paper.append(paper[0])
        self.assertIs(lets_kept(hall, paper), False)
        self.assertEqual(paper, was + was[:1])


class Broken(unittest.TestCase):
    def test_told_papers_in_any_order(self):
        for hall in broken_halls():
            paper = broken_paper(hall)
            for order in [paper, paper[::-1], paper[1:] + paper[:1], sorted(paper, key=lambda row: row[1])]:
                with self.subTest(hall=hall):
                    self.assertIs(lets_broken(hall, order), True)

    def test_papers_that_nobody_told(self):
        hall = hall_of([1, 2])
        self.assertIs(lets_broken(hall, [(((1, 2), 0), 9, (False, False)), (((1, 1), 0), 8, (False, False))]), True)
        self.assertIs(lets_broken(hall, [(((1, 1), 0), 1, (False, False)), (((1, 2), 0), GREAT, (False, False))]), True)
        # Another answer that breaks as well as the told one.
        hall = hall_of([1, 1], 1)
        for answers in itertools.product([False, True], repeat=2):
            self.assertIs(lets_broken(hall, [(((1, 1), 0), 1, answers)]), True)

    def test_every_paper_of_small_halls_against_the_words_of_the_document(self):
        let = 0
        for hall, length in [(hall_of([1, 2]), 3), (hall_of([1], 1), 3), (hall_of([1, 1], 1), 2), (hall_of([2], 1), 2)]:
            truths = [False, True]
            answers = [row for size in range(4) for row in itertools.product(truths, repeat=size)][1:8]
            rows = list(itertools.product(every_standing(hall), range(0, 3), answers))
            for size in range(length):
                for paper in itertools.product(rows, repeat=size):
                    answer = lets_broken(hall, list(paper))
                    let += answer
                    self.assertIs(answer, plain_lets_broken(hall, paper), (hall, paper))
        self.assertGreater(let, 5)

    def test_without_the_beginning(self):
        for hall in [((2, 2), None), ((1, 1), None), ((1,), 1)]:
            self.assertIs(lets_broken(hall, []), False)
        self.assertIs(lets_broken(hall_of([1, 2]), [(((1, 1), 0), 1, (False, False))]), False)
        self.assertIs(lets_broken(hall_of([2], 1), [(((1,), 0), 1, (True,))]), False)

    def test_a_standing_twice(self):
        for hall in broken_halls():
            paper = broken_paper(hall)
            for row in paper:
                with self.subTest(hall=hall, row=row):
                    self.assertIs(lets_broken(hall, paper + [row]), False)
                    self.assertIs(lets_broken(hall, [row] + paper), False)
                    self.assertIs(lets_broken(hall, paper + [(row[0], row[1] + 1, row[2])]), False)

    def test_a_rank_that_is_none(self):
        hall = hall_of([1, 1])
        for rank, let in [(1, True), (2, True), (GREAT, True), (0, False), (-1, False), (-GREAT, False)]:
            with self.subTest(rank=rank):
                self.assertIs(lets_broken(hall, [(((1, 1), 0), rank, (False, False))]), let)
        # Lesser one by one, but not from 1 on.
        hall = hall_of([1, 2])
        for lower in [0, -1, -GREAT]:
            paper = [(((1, 1), 0), lower, (False, False)), (((1, 2), 0), 2, (False, False))]
            self.assertIs(lets_broken(hall, paper), False)

    def test_a_rank_that_is_not_lesser(self):
        hall = hall_of([1, 3])
        for ranks_told, let in [
            ((1, 2, 3), True), ((1, 5, 9), True), ((2, 2, 3), False), ((1, 3, 3), False), ((2, 1, 3), False),
            ((1, 3, 2), False), ((3, 2, 1), False), ((GREAT - 2, GREAT - 1, GREAT), True), ((1, GREAT, GREAT), False),
        ]:
            paper = [(((1, left), 0), rank, (False, False)) for left, rank in zip([1, 2, 3], ranks_told)]
            with self.subTest(ranks=ranks_told):
                self.assertIs(lets_broken(hall, paper), let)

    def test_answers_of_another_length(self):
        for hall in broken_halls():
            paper = broken_paper(hall)
            for place, row in enumerate(paper):
                for answers in [(), row[2][:-1], row[2] + (False,), row[2] + (True,), row[2] * 2, (False,) * 300]:
                    with self.subTest(hall=hall, row=row, answers=answers):
                        other = paper[:place] + [(row[0], row[1], answers)] + paper[place + 1:]
                        self.assertIs(lets_broken(hall, other), False)

    def test_a_loss_where_the_road_may_not_lose(self):
        self.assertIs(lets_broken(hall_of([1]), [(((1,), 0), 1, (True,))]), False)
        self.assertIs(lets_broken(hall_of([1], 1), [(((1,), 0), 1, (True,))]), True)
        for answers in [(True, False), (False, True), (True, True)]:
            # Somebody would be broken there in any case.
            self.assertIs(lets_broken(hall_of([1, 1]), [(((1, 1), 0), 1, answers)]), False)
        hall = hall_of([2], 1)
        paper = [(((2,), 0), 2, (True,)), (((1,), 1), 1, (True,))]
        self.assertIs(lets_broken(hall, paper), False)
        quiet = [(((1, 1), 0), 1, (False, True)), (((1, 1), 1), 1, (False, True))]
        self.assertIs(lets_broken(hall_of([1, 1], 1), quiet), False)
        quiet = [(((1, 1), 0), 1, (False, True)), (((1, 1), 1), 1, (False, False))]
        self.assertIs(lets_broken(hall_of([1, 1], 1), quiet), True)

    def test_an_entry_left_out(self):
        for hall in broken_halls():
            paper = broken_paper(hall)
            for place in range(len(paper)):
                with self.subTest(hall=hall, place=place):
                    self.assertIs(lets_broken(hall, paper[:place] + paper[place + 1:]), False)

    def test_every_listeners_call_is_looked_at(self):
        hall = hall_of([1, 1, 2], 1)
        row = (((1, 1, 2), 0), 2, (False, False, False))
        self.assertIs(lets_broken(hall, [row]), True)
        hall = hall_of([2, 1])
        row = (((2, 1), 0), 2, (False, False))
        self.assertIs(lets_broken(hall, [row]), False)
        hall = hall_of([1, 2])
        row = (((1, 2), 0), 2, (False, False))
        self.assertIs(lets_broken(hall, [row]), False)

    def test_halls_with_very_many_standings(self):
        hall = hall_of([1, 1, GREAT], GREAT)
        for answers in itertools.product([False, True], repeat=3):
            self.assertIs(lets_broken(hall, [(beginning(hall), 1, answers)]), True)
            self.assertIs(lets_broken(hall, [(beginning(hall), GREAT, answers)]), True)
        hall = hall_of([1], GREAT)
        self.assertIs(lets_broken(hall, [(((1,), 0), 1, (True,))]), True)
        self.assertIs(lets_broken(hall, [(((1,), 0), 1, (False,))]), False)
        hall = hall_of([GREAT, GREAT])
        self.assertIs(lets_broken(hall, [(beginning(hall), GREAT, (False, False))]), False)
        hall = hall_of([2, 2, 2, GREAT])
        paper = [
            (((2, 2, 2, GREAT), 0), 2, (False,) * 4), (((2, 1, 1, GREAT - 1), 0), 1, (False,) * 4),
            (((1, 2, 1, GREAT - 1), 0), 1, (False,) * 4), (((1, 1, 2, GREAT - 1), 0), 1, (False,) * 4),
            (((1, 1, 1, GREAT), 0), 1, (False,) * 4),
        ]
        self.assertIs(lets_broken(hall, paper), True)
        self.assertIs(lets_broken(hall, paper[:-1]), False)

    def test_a_paper_of_three_thousand(self):
        hall = hall_of([1, 3000, GREAT])
        paper = [(((1, left, GREAT - 3000 + left), 0), left, (False,) * 3) for left in range(1, 3001)]
        self.assertIs(lets_broken(hall, paper), True)
        self.assertIs(lets_broken(hall, paper[1:]), False)

    def test_the_list_stays_as_handed_in_and_is_not_kept(self):
        hall = hall_of([3, 3], 1)
        paper = broken_paper(hall)[::-1]
        was = list(paper)
        self.assertIs(lets_broken(hall, paper), True)
        self.assertEqual(paper, was)
        paper.append(paper[0])
        self.assertIs(lets_broken(hall, paper), False)
        self.assertEqual(paper, was + was[:1])


class NeverBoth(unittest.TestCase):
    def test_no_paper_of_the_other_sort_is_let_by_whatever_ranks_and_answers_it_has(self):
        for hall in [hall_of([2, 2]), hall_of([2], 1), hall_of([1]), hall_of([3])]:
            self.assertTrue(lets_kept(hall, kept_paper(hall)))
            everyone = every_standing(hall)
            choices = [
                [(standing, rank, answers) for rank in [1, 2, 3] for answers in
                 itertools.product(what_the_road_can_do(hall, standing), repeat=len(hall[0]))]
                for standing in everyone
            ]
            for size in range(len(everyone) + 1):
                for some in itertools.combinations(choices, size):
                    for paper in itertools.product(*some):
                        self.assertIs(lets_broken(hall, list(paper)), False)

    def test_no_paper_of_kept_calls_is_let_by_where_the_beginning_has_a_rank(self):
        for hall in [hall_of([1, 2]), hall_of([1, 3]), hall_of([1], 2), hall_of([2, 2], 1)]:
            self.assertTrue(lets_broken(hall, broken_paper(hall)))
            everyone = every_standing(hall)
            choices = [[None] + [(standing, who) for who in range(len(hall[0]))] for standing in everyone]
            for paper in itertools.product(*choices):
                self.assertIs(lets_kept(hall, [row for row in paper if row is not None]), False)


if __name__ == "__main__":
    unittest.main()
