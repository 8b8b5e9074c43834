"""Points 2, 4, 29 and 30 and the interface of roundcall.plays."""

import inspect
import itertools
import random
import unittest

from roundcall import plays
from roundcall.checks import lets_broken, lets_kept
from roundcall.errors import TooMany
from roundcall.halls import hall_of
from roundcall.papers import broken_paper, kept_paper
from roundcall.players import Caller, PaperCaller, PaperRoad, Road, RowCaller, RowRoad
from roundcall.plays import paper_round, play
from roundcall.rounds import keeps, walked
from tests.plain import (
    GREAT, every_standing, plain_best, plain_ranks, small_halls, turn, what_the_road_can_do,
)

TOO_GREAT = [
    ((3001,), None), ((1501,), 1), ((1,), 3000), ((10, 10, 5), 6), ((3,) * 8, None), ((GREAT,), None), ((1,), GREAT),
]


def plain_play(hall, calls, losses):
    """The play of calls and losses that are all as they may be, turn by turn."""
    rows = []
    here = (hall[0], 0)
    for who, lost in zip(calls, losses):
        rows.append((here, who, lost))
        left = [wait if number == who and not lost else here[0][number] - 1 for number, wait in enumerate(hall[0])]
        if 0 in left:
            return (rows, [number for number in range(len(left)) if left[number] == 0])
        here = turn(hall, here, who, lost)
    return (rows, [])


def split_halls():
    """The small halls with their ranks, the kept ones and the broken ones."""
    told = [(hall, plain_ranks(hall)) for hall in small_halls()]
    return (
        [(hall, table) for hall, table in told if (hall[0], 0) not in table],
        [(hall, table) for hall, table in told if (hall[0], 0) in table],
    )


KEPT_HALLS, BROKEN_HALLS = split_halls()


def other_kept(hall, table):
    """A kept paper of all safe standings, with the last call that leads to safe ones alone."""
    paper = []
    for standing in every_standing(hall):
        for who in range(len(hall[0])):
            behind = [turn(hall, standing, who, lost) for lost in what_the_road_can_do(hall, standing)]
            if standing not in table and None not in behind and not any(later in table for later in behind):
                last = (standing, who)
        if standing not in table:
            paper.append(last)
    return paper[::-1]


def other_broken(hall, table, wish):
    """A broken paper of all standings with a rank: the wished answer wherever it leads to a lesser rank."""
    paper = []
    for standing, rank in table.items():
        answers = []
        for who in range(len(hall[0])):
            good = []
            for lost in what_the_road_can_do(hall, standing):
                behind = turn(hall, standing, who, lost)
                if behind is None or table.get(behind, rank) < rank:
                    good.append(lost)
            answers.append(wish if wish in good else good[0])
        paper.append((standing, 7 * rank - 3, tuple(answers)))
    return paper[::-1]


class Asked(Caller, Road):
    """A caller and a road that write down what they are asked."""

    def __init__(self, log, answers):
        self.log = log
        self.answers = list(answers)

    def call(self, hall, standing):
        self.log.append(("call", hall, standing))
        return self.answers.pop(0)

    def loses(self, hall, standing, who):
        self.log.append(("loses", hall, standing, who))
        return self.answers.pop(0)


class Interface(unittest.TestCase):
    def test_names_and_arguments(self):
        for name, form in {"play": "(hall, caller, road, turns)", "paper_round": "(hall)"}.items():
            with self.subTest(name=name):
                self.assertEqual(str(inspect.signature(getattr(plays, name))), form)


class Playing(unittest.TestCase):
    def test_no_turns(self):
        for hall in [hall_of([1, 1]), hall_of([3], 1), hall_of([GREAT] * 8, GREAT)]:
            log = []
            told = play(hall, Asked(log, []), Asked(log, []), 0)
            self.assertEqual((told, log), (([], []), []))

    def test_written_out(self):
        hall = hall_of([3, 2], 1)
        told = play(hall, RowCaller([0, 1, 0, 0]), RowRoad([True, False, True]), 4)
        self.assertEqual(
            told,
            ([(((3, 2), 0), 0, True), (((2, 1), 1), 1, False), (((1, 2), 0), 0, True)], [0]),
        )
        self.assertEqual([type(told), type(told[0]), type(told[1])], [tuple, list, list])
        self.assertEqual([type(row) for row in told[0]], [tuple] * 3)

    def test_the_standing_ahead_of_each_turn(self):
        told = play(hall_of([3, 3, 3]), Caller(), Road(), 4)
        self.assertEqual(
            told,
            ([(((3, 3, 3), 0), 0, False), (((3, 2, 2), 0), 1, False), (((2, 3, 1), 0), 2, False),
              (((1, 2, 3), 0), 0, False)], []),
        )

    def test_so_many_turns_and_no_more(self):
        hall = hall_of([2, 2])
        for turns in range(6):
            log = []
            rows, broken = play(hall, Asked(log, [0, 1] * 3), Road(), turns)
            self.assertEqual((len(rows), broken, len(log)), (turns, [], turns))

    def test_it_ends_behind_the_turn_in_which_somebody_is_broken(self):
        hall = hall_of([4, 2, 9])
        for turns in [2, 3, 10, 3000]:
            rows, broken = play(hall, RowCaller([0, 2, 1, 1]), Road(), turns)
            self.assertEqual((rows, broken), ([(((4, 2, 9), 0), 0, False), (((4, 1, 8), 0), 2, False)], [1]))
        self.assertEqual(play(hall, RowCaller([0, 2]), Road(), 1)[1], [])

    def test_broken_in_the_first_turn(self):
        self.assertEqual(play(hall_of([1, 1]), Caller(), Road(), 5), ([(((1, 1), 0), 0, False)], [1]))
        self.assertEqual(play(hall_of([1], 4), Caller(), RowRoad([True]), 5), ([(((1,), 0), 0, True)], [0]))

    def test_the_broken_ones_rising(self):
        self.assertEqual(play(hall_of([2] * 8), RowCaller([7, 3]), Road(), 9)[1], [0, 1, 2, 4, 5, 6])
        self.assertEqual(play(hall_of([1, 5, 1, 1]), RowCaller([2]), Road(), 9)[1], [0, 3])
        self.assertEqual(play(hall_of([1, 5, 1, 1], 2), RowCaller([2]), RowRoad([True]), 9)[1], [0, 2, 3])

    def test_the_caller_is_asked_first_then_the_road(self):
        hall = hall_of([4, 3], 1)
        log = []
        told = play(hall, Asked(log, [1, 0]), Asked(log, [True, False]), 2)
        self.assertEqual(
            log,
            [("call", hall, ((4, 3), 0)), ("loses", hall, ((4, 3), 0), 1),
             ("call", hall, ((3, 2), 1)), ("loses", hall, ((3, 2), 1), 0)],
        )
        self.assertEqual(told, ([(((4, 3), 0), 1, True), (((3, 2), 1), 0, False)], []))

    def test_behind_a_break_nobody_is_asked(self):
        caller = RowCaller([1, 1, 0])
        self.assertEqual(play(hall_of([2, 9]), caller, Road(), 3)[1], [0])
        self.assertEqual(caller.call(hall_of([9, 2]), ((9, 2), 0)), 0)

    def test_small_halls_against_the_words_of_the_document(self):
        chance = random.Random(11)
        for hall in small_halls():
            for trial in range(3):
                calls = [chance.randrange(len(hall[0])) for number in range(7)]
                wishes = [chance.random() < 0.4 for number in range(7)]
                losses = []
                here = (hall[0], 0)
                for who, wish in zip(calls, wishes):
                    losses.append(wish and True in what_the_road_can_do(hall, here))
                    here = turn(hall, here, who, losses[-1]) or here
                expected = plain_play(hall, calls, losses)
                with self.subTest(hall=hall, calls=calls, wishes=wishes):
                    self.assertEqual(play(hall, RowCaller(calls), RowRoad(wishes), 7), expected)

    def test_two_plays_one_behind_the_other_with_the_same_players(self):
        hall = hall_of([3, 3], 2)
        caller, road = RowCaller([1, 0, 0, 1, 1]), RowRoad([False, True, False, True])
        one = play(hall, caller, road, 2)
        other = play(hall, caller, road, 4)
        self.assertEqual(one, ([(((3, 3), 0), 1, False), (((2, 3), 0), 0, True)], []))
        self.assertEqual(
            other,
            ([(((3, 3), 0), 0, False), (((3, 2), 0), 1, True), (((2, 1), 2), 1, False), (((1, 3), 1), 0, False)], []),
        )

    def test_two_plays_in_unlike_halls_with_the_same_players(self):
        caller, road = RowCaller([1, 1, 2, 0]), RowRoad([True, True, True, True])
        self.assertEqual(
            play(hall_of([2, 4]), caller, road, 9),
            ([(((2, 4), 0), 1, False), (((1, 4), 0), 1, False)], [0]),
        )
        self.assertEqual(
            play(hall_of([5, 5, 5], 1), caller, road, 3),
            ([(((5, 5, 5), 0), 2, True), (((4, 4, 4), 1), 0, False), (((5, 3, 3), 0), 1, False)], []),
        )

    def test_three_hundred_turns_and_three_thousand(self):
        rows, broken = play(hall_of([3, 3, 3]), Caller(), Road(), 300)
        self.assertEqual(([who for here, who, lost in rows], broken), ([0, 1, 2] * 100, []))
        rows, broken = play(hall_of([2], 1), Caller(), RowRoad([True, False] * 150), 3000)
        self.assertEqual((len(rows), broken), (3000, []))
        self.assertEqual([lost for here, who, lost in rows], [True, False] * 150 + [False] * 2700)
        rows, broken = play(hall_of([GREAT, GREAT]), RowCaller([0] * 300), Road(), 300)
        self.assertEqual((rows[299], broken), ((((GREAT, GREAT - 299), 0), 0, False), []))

    def test_the_told_rows_are_a_walk(self):
        chance = random.Random(29)
        for hall in small_halls():
            calls = [chance.randrange(len(hall[0])) for number in range(5)]
            rows, broken = play(hall, RowCaller(calls), RowRoad([chance.random() < 0.5 for number in range(9)]), 9)
            for number, (standing, who, lost) in enumerate(rows):
                ahead = rows[:number]
                told = walked(hall, (hall[0], 0), [row[1] for row in ahead], [row[2] for row in ahead])
                self.assertEqual(told, (number, standing))
            turns, here = walked(hall, (hall[0], 0), [row[1] for row in rows], [row[2] for row in rows])
            self.assertEqual(here is None, broken != [])
            self.assertEqual(turns, len(rows) - 1 if broken else 9)

    def test_the_told_lists_are_the_askers_own(self):
        hall = hall_of([2, 2, 9])
        one = play(hall, RowCaller([2, 2]), Road(), 3)
        other = play(hall, RowCaller([2, 2]), Road(), 3)
        was = ([(((2, 2, 9), 0), 2, False), (((1, 1, 9), 0), 2, False)], [0, 1])
        one[0].clear()
        one[1].append(7)
        self.assertEqual(other, was)
        self.assertEqual(play(hall, RowCaller([2, 2]), Road(), 3), was)
        kept = play(hall, Caller(), Road(), 0)
        kept[0].append(1)
        kept[1].append(1)
        self.assertEqual(play(hall, Caller(), Road(), 0), ([], []))


class ByKeptPapers(unittest.TestCase):
    def check_never_broken(self, hall, paper):
        for wish in itertools.product([False, True], repeat=6):
            rows, broken = play(hall, PaperCaller(paper), RowRoad(list(wish) * 5), 40)
            self.assertEqual((len(rows), broken), (40, []), (hall, wish))

    def check_by_other_roads(self, hall, paper):
        always = [(standing, 1, (True,) * len(hall[0])) for standing in every_standing(hall)]
        chance = random.Random(4)
        for road in [Road(), RowRoad([True] * 300), PaperRoad(always)] + [
            RowRoad([chance.random() < part for number in range(300)]) for part in [0.1, 0.3, 0.6]
        ]:
            rows, broken = play(hall, PaperCaller(paper), road, 300)
            self.assertEqual((len(rows), broken), (300, []), hall)

    def test_nobody_is_ever_broken(self):
        self.assertGreater(len(KEPT_HALLS), 20)
        for hall, table in KEPT_HALLS:
            self.check_never_broken(hall, kept_paper(hall))

    def test_nobody_is_broken_by_other_roads_and_for_long(self):
        for hall, table in KEPT_HALLS:
            self.check_by_other_roads(hall, kept_paper(hall))

    def test_a_paper_of_another_hand_does_as_much(self):
        for hall, table in KEPT_HALLS:
            paper = other_kept(hall, table)
            self.assertTrue(lets_kept(hall, paper))
            self.check_never_broken(hall, paper)
            self.check_by_other_roads(hall, paper)

    def test_every_standing_of_such_a_play_is_in_the_paper(self):
        for hall, table in KEPT_HALLS:
            paper = kept_paper(hall)
            rows, broken = play(hall, PaperCaller(paper), RowRoad([True, False, False] * 20), 60)
            for standing, who, lost in rows:
                self.assertIn((standing, who), paper)


class ByBrokenPapers(unittest.TestCase):
    def callers(self, hall, within):
        if len(hall[0]) ** within <= 300:
            for calls in itertools.product(range(len(hall[0])), repeat=within):
                yield RowCaller(list(calls))
        chance = random.Random(within)
        for trial in range(20):
            yield RowCaller([chance.randrange(len(hall[0])) for number in range(within)])
        yield Caller()

    def best_caller(self, hall, table):
        return PaperCaller([(standing, plain_best(hall, table, standing)) for standing in every_standing(hall)])

    def test_somebody_is_broken_within_the_rank_of_the_beginning(self):
        self.assertGreater(len(BROKEN_HALLS), 20)
        for hall, table in BROKEN_HALLS:
            paper = broken_paper(hall)
            within = table[(hall[0], 0)]
            for caller in self.callers(hall, within):
                rows, broken = play(hall, caller, PaperRoad(paper), within)
                self.assertNotEqual(broken, [], hall)
                self.assertLessEqual(len(rows), within)

    def test_against_the_best_calls_in_just_that_turn(self):
        for hall, table in BROKEN_HALLS:
            rows, broken = play(hall, self.best_caller(hall, table), PaperRoad(broken_paper(hall)), 3000)
            self.assertNotEqual(broken, [])
            self.assertEqual(len(rows), table[(hall[0], 0)], hall)

    def test_a_long_one(self):
        hall = hall_of([1, 3000])
        rows, broken = play(hall, Caller(), PaperRoad(broken_paper(hall)), 3000)
        self.assertEqual((len(rows), broken), (3000, [1]))

    def test_a_paper_of_another_hand_does_as_much(self):
        for hall, table in BROKEN_HALLS:
            for wish in [False, True]:
                paper = other_broken(hall, table, wish)
                within = dict((row[0], row[1]) for row in paper)[(hall[0], 0)]
                self.assertTrue(lets_broken(hall, paper))
                for caller in list(self.callers(hall, table[(hall[0], 0)])) + [self.best_caller(hall, table)]:
                    rows, broken = play(hall, caller, PaperRoad(paper), within)
                    self.assertNotEqual(broken, [], (hall, paper))


class PaperRounds(unittest.TestCase):
    def plain_round(self, hall):
        """The kept paper walked with nothing lost, parted by looking for the first standing that comes again."""
        paper = dict(kept_paper(hall))
        here = (hall[0], 0)
        come = []
        while come.count(here) == 0:
            come.append(here)
            here = turn(hall, here, paper[here], False)
        calls = [paper[standing] for standing in come]
        return (calls[:come.index(here)], calls[come.index(here):])

    def test_written_out(self):
        self.assertEqual(paper_round(hall_of([1])), ([], [0]))
        self.assertEqual(paper_round(hall_of([2, 2])), ([0], [1, 0]))
        self.assertEqual(paper_round(hall_of([2], 3)), ([], [0]))
        self.assertEqual(paper_round(hall_of([3000])), ([], [0]))

    def test_against_the_kept_paper_walked_with_nothing_lost(self):
        sorts = {True: 0, False: 0}
        greater = [((2, 4, 8, 8), None), ((10, 10, 5), 5), ((14, 14, 14), None)]
        for hall in [hall for hall, table in KEPT_HALLS] + greater:
            told = paper_round(hall)
            sorts[told[0] == []] += 1
            with self.subTest(hall=hall):
                self.assertEqual(told, self.plain_round(hall))
                self.assertEqual([type(told), type(told[0]), type(told[1])], [tuple, list, list])
        self.assertGreater(min(sorts.values()), 3)

    def test_it_is_what_a_caller_by_the_paper_calls(self):
        for hall, table in KEPT_HALLS:
            lead, told = paper_round(hall)
            rows, broken = play(hall, PaperCaller(kept_paper(hall)), Road(), len(lead) + 3 * len(told))
            self.assertEqual([who for standing, who, lost in rows], lead + 3 * told)
            self.assertEqual(rows[len(lead)][0], rows[len(lead) + len(told)][0])

    def test_the_round_keeps_the_hall(self):
        for hall, table in KEPT_HALLS:
            self.assertTrue(keeps(hall, paper_round(hall)[1]))

    def test_none_where_the_hall_can_be_broken(self):
        for hall, table in BROKEN_HALLS:
            self.assertIsNone(paper_round(hall))

    def test_halls_of_more_standings_are_refused(self):
        for hall in TOO_GREAT:
            with self.subTest(hall=hall):
                with self.assertRaises(TooMany):
                    paper_round(hall)

    def test_halls_of_just_three_thousand_are_not(self):
        self.assertIsNotNone(paper_round(((10, 10, 5), 5)))
        self.assertIsNone(paper_round(((1, 3000), None)))

    def test_the_told_lists_are_the_askers_own(self):
        hall = hall_of([2, 2])
        one = paper_round(hall)
        one[0].clear()
        one[1].append(9)
        self.assertEqual(paper_round(hall), ([0], [1, 0]))


if __name__ == "__main__":
    unittest.main()
