"""Points 2, 27 and 28 and the interface of roundcall.players."""

import inspect
import itertools
import unittest

from roundcall.halls import hall_of
from roundcall.papers import broken_paper, kept_paper
from roundcall.players import Caller, PaperCaller, PaperRoad, Road, RowCaller, RowRoad
from tests.plain import GREAT, every_standing, small_halls, what_the_road_can_do

HALL = ((3, 3), 2)
BEGINNING = ((3, 3), 0)
QUIET = ((3, 3), 1)


def plain_least(standing):
    least = sorted(standing[0])[0]
    return [who for who, left in enumerate(standing[0]) if left == least][0]


class Interface(unittest.TestCase):
    def test_names_and_arguments(self):
        forms = {
            Caller: "()", RowCaller: "(row)", PaperCaller: "(paper)",
            Road: "()", RowRoad: "(row)", PaperRoad: "(paper)",
            Caller.call: "(self, hall, standing)", RowCaller.call: "(self, hall, standing)",
            PaperCaller.call: "(self, hall, standing)", Road.loses: "(self, hall, standing, who)",
            RowRoad.loses: "(self, hall, standing, who)", PaperRoad.loses: "(self, hall, standing, who)",
        }
        for thing, form in forms.items():
            with self.subTest(thing=thing):
                self.assertEqual(str(inspect.signature(thing)), form)

    def test_each_class_stands_straight_under_its_own(self):
        self.assertEqual([Caller.__bases__, Road.__bases__], [(object,), (object,)])
        self.assertEqual([RowCaller.__bases__, PaperCaller.__bases__], [(Caller,), (Caller,)])
        self.assertEqual([RowRoad.__bases__, PaperRoad.__bases__], [(Road,), (Road,)])


class PlainCaller(unittest.TestCase):
    def test_the_least_left_the_first_of_several(self):
        caller = Caller()
        for left, who in [
            ((1,), 0), ((5,), 0), ((2, 3), 0), ((3, 2), 1), ((2, 2), 0), ((3, 1, 1), 1), ((3, 2, 1), 2),
            ((4, 4, 4, 4, 4, 4, 4, 4), 0), ((4, 4, 4, 4, 4, 4, 4, 3), 7), ((9, 2, 9, 2), 1), ((10, 9), 1),
        ]:
            with self.subTest(left=left):
                self.assertEqual(caller.call(((10,) * len(left), None), (left, 0)), who)

    def test_at_all_standings_of_small_halls(self):
        caller = Caller()
        for hall in small_halls():
            for standing in every_standing(hall):
                told = caller.call(hall, standing)
                self.assertEqual(told, plain_least(standing), (hall, standing))
                self.assertIs(type(told), int)

    def test_what_is_left_counts_and_not_the_waits(self):
        self.assertEqual(Caller().call(((2, 9), None), ((2, 1), 0)), 1)
        self.assertEqual(Caller().call(((9, 2), None), ((1, 2), 0)), 0)

    def test_numbers_of_a_hundred_figures(self):
        hall = hall_of([GREAT, GREAT, GREAT], GREAT)
        self.assertEqual(Caller().call(hall, ((GREAT, GREAT - 1, GREAT - 1), GREAT)), 1)
        self.assertEqual(Caller().call(hall, ((GREAT, GREAT, GREAT), 0)), 0)

    def test_asked_again_it_answers_the_same(self):
        caller = Caller()
        self.assertEqual([caller.call(HALL, ((3, 2), 0)) for asking in range(5)], [1] * 5)


class CallerByARow(unittest.TestCase):
    def test_the_row_and_behind_its_end_the_least_left(self):
        caller = RowCaller([1, 0, 0, 1])
        told = [caller.call(HALL, ((3, 2), 0)) for asking in range(4)]
        self.assertEqual(told, [1, 0, 0, 1])
        behind = [caller.call(HALL, standing) for standing in [((3, 2), 0), ((2, 3), 0), ((2, 2), 0), ((3, 1), 1)]]
        self.assertEqual(behind, [1, 0, 0, 1])

    def test_the_standing_does_not_matter_within_the_row(self):
        row = [0, 1, 1, 0]
        for standings in itertools.product([((1, 3), 0), ((3, 1), 2), ((2, 2), 1)], repeat=4):
            caller = RowCaller(row)
            self.assertEqual([caller.call(HALL, standing) for standing in standings], row)

    def test_it_goes_on_through_several_halls(self):
        caller = RowCaller([1, 2, 0, 1, 4])
        halls = [((3, 3), None), ((4, 4, 4), 1), ((1,), None), ((2, 2), 3), ((9,) * 5, None)]
        self.assertEqual([caller.call(hall, (hall[0], 0)) for hall in halls], [1, 2, 0, 1, 4])
        self.assertEqual(caller.call(((3, 3, 3), None), ((2, 1, 1), 0)), 1)

    def test_the_row_without_calls(self):
        caller = RowCaller([])
        self.assertEqual([caller.call(HALL, ((3, 2), 0)), caller.call(HALL, ((1, 2), 0))], [1, 0])

    def test_a_row_of_one(self):
        caller = RowCaller([0])
        self.assertEqual([caller.call(HALL, ((3, 2), 0)) for asking in range(3)], [0, 1, 1])

    def test_a_row_of_three_hundred(self):
        row = [number % 2 for number in range(300)]
        caller = RowCaller(row)
        told = [caller.call(HALL, ((2, 1), 0)) for asking in range(400)]
        self.assertEqual(told, row + [1] * 100)

    def test_what_is_done_to_the_row_changes_nothing(self):
        row = [0, 0, 0]
        callers = [RowCaller(row) for made in range(4)]
        row[1] = 1
        told = [[callers[0].call(HALL, ((3, 2), 0)) for asking in range(4)]]
        row.append(0)
        told.append([callers[1].call(HALL, ((3, 2), 0)) for asking in range(4)])
        row.insert(0, 1)
        told.append([callers[2].call(HALL, ((3, 2), 0)) for asking in range(4)])
        row.clear()
        told.append([callers[3].call(HALL, ((3, 2), 0)) for asking in range(4)])
        self.assertEqual(told, [[0, 0, 0, 1]] * 4)

    def test_the_row_stays_as_it_was(self):
        row = [1, 0, 1]
        caller = RowCaller(row)
        for asking in range(5):
            caller.call(HALL, BEGINNING)
            self.assertEqual(row, [1, 0, 1])

    def test_one_ones_askings_do_not_change_anothers(self):
        row = [1, 0, 1]
        one, other = RowCaller(row), RowCaller(row)
        told = []
        for asking in range(3):
            told.append(one.call(HALL, BEGINNING))
        self.assertEqual(told, row)
        self.assertEqual([other.call(HALL, BEGINNING) for asking in range(3)], row)
        self.assertEqual(RowCaller(row).call(HALL, BEGINNING), 1)


class CallerByAPaper(unittest.TestCase):
    def test_as_the_paper_tells_in_any_order(self):
        paper = [(((3, 3), 0), 1), (((2, 3), 0), 1), (((2, 3), 2), 0), (((1, 3), 1), 1), (((3, 2), 0), 0)]
        for order in itertools.permutations(paper):
            caller = PaperCaller(list(order))
            for standing, who in paper:
                self.assertEqual(caller.call(HALL, standing), who)

    def test_a_standing_that_is_not_in_it(self):
        caller = PaperCaller([(((3, 2), 0), 0)])
        self.assertEqual(caller.call(HALL, ((3, 2), 0)), 0)
        for standing, who in [(((3, 2), 1), 1), (((3, 1), 0), 1), (((2, 2), 0), 0), (((1, 2), 0), 0)]:
            with self.subTest(standing=standing):
                self.assertEqual(caller.call(HALL, standing), who)

    def test_the_paper_without_standings(self):
        caller = PaperCaller([])
        for standing in every_standing(HALL):
            self.assertEqual(caller.call(HALL, standing), plain_least(standing))

    def test_asked_again_it_answers_the_same(self):
        caller = PaperCaller([(((3, 2), 0), 0)])
        self.assertEqual([caller.call(HALL, ((3, 2), 0)) for asking in range(3)], [0] * 3)

    def test_told_kept_papers(self):
        for hall in small_halls():
            paper = kept_paper(hall)
            if paper is not None:
                caller = PaperCaller(paper)
                listed = dict(paper)
                for standing in every_standing(hall):
                    who = listed.get(standing, plain_least(standing))
                    self.assertEqual(caller.call(hall, standing), who, (hall, standing))

    def test_what_is_done_to_the_paper_changes_nothing(self):
        paper = [(((3, 2), 0), 0), (((2, 3), 0), 1)]
        caller = PaperCaller(paper)
        self.assertEqual(caller.call(HALL, ((3, 2), 0)), 0)
        paper[0] = (((3, 2), 0), 1)
        paper.append((((3, 1), 0), 0))
        self.assertEqual([caller.call(HALL, ((3, 2), 0)), caller.call(HALL, ((3, 1), 0))], [0, 1])
        paper.clear()
        self.assertEqual([caller.call(HALL, ((3, 2), 0)), caller.call(HALL, ((2, 3), 0))], [0, 1])

    def test_the_paper_stays_as_it_was(self):
        paper = [(((3, 2), 0), 0), (((2, 3), 0), 1)]
        caller = PaperCaller(paper)
        for standing in every_standing(HALL):
            caller.call(HALL, standing)
        self.assertEqual(paper, [(((3, 2), 0), 0), (((2, 3), 0), 1)])

    def test_papers_beside_one_another(self):
        one = PaperCaller([(((3, 2), 0), 0)])
        other = PaperCaller([(((3, 1), 0), 0)])
        self.assertEqual([one.call(HALL, ((3, 2), 0)), one.call(HALL, ((3, 1), 0))], [0, 1])
        self.assertEqual([other.call(HALL, ((3, 2), 0)), other.call(HALL, ((3, 1), 0))], [1, 0])

    def test_numbers_of_a_hundred_figures(self):
        hall = hall_of([GREAT, 2], GREAT)
        caller = PaperCaller([(((GREAT, 2), GREAT), 0)])
        self.assertEqual([caller.call(hall, ((GREAT, 2), GREAT)), caller.call(hall, ((GREAT, 2), 0))], [0, 1])


class PlainRoad(unittest.TestCase):
    def test_it_loses_nothing(self):
        road = Road()
        for hall in small_halls():
            for standing in every_standing(hall):
                for who in range(len(hall[0])):
                    self.assertIs(road.loses(hall, standing, who), False)


class RoadByARow(unittest.TestCase):
    def test_the_row_and_behind_its_end_nothing(self):
        road = RowRoad([True, False, True, True])
        told = [road.loses(HALL, BEGINNING, asking % 2) for asking in range(7)]
        self.assertEqual(told, [True, False, True, True, False, False, False])
        self.assertEqual([type(answer) for answer in told], [bool] * 7)

    def test_where_it_may_not_lose_it_never_does(self):
        for hall, standing in [(HALL, QUIET), (HALL, ((3, 3), 2)), (((3, 3), None), BEGINNING)]:
            road = RowRoad([True] * 5)
            for asking in range(7):
                self.assertIs(road.loses(hall, standing, 0), False)

    def test_each_asking_counts_also_where_it_may_not_lose(self):
        road = RowRoad([True, True, False, True, False, True])
        told = [road.loses(HALL, standing, 1) for standing in [QUIET, BEGINNING, QUIET, QUIET, BEGINNING, BEGINNING]]
        self.assertEqual(told, [False, True, False, False, False, True])
        late = RowRoad([False, True])
        self.assertEqual([late.loses(HALL, QUIET, 0), late.loses(HALL, BEGINNING, 0)], [False, True])
        gone = RowRoad([True])
        self.assertEqual([gone.loses(HALL, QUIET, 0), gone.loses(HALL, BEGINNING, 0)], [False, False])

    def test_it_goes_on_through_several_halls(self):
        road = RowRoad([True, True, False, True])
        told = [road.loses(hall, (hall[0], 0), 0) for hall in [HALL, ((2,), None), ((2,), 1), ((4, 4, 4), 7), HALL]]
        self.assertEqual(told, [True, False, False, True, False])

    def test_all_short_rows_and_askings(self):
        for row in itertools.product([False, True], repeat=4):
            for standings in itertools.product([BEGINNING, QUIET], repeat=5):
                road = RowRoad(list(row))
                told = [road.loses(HALL, standing, 1) for standing in standings]
                self.assertEqual(told, [bool(wish and here[1] == 0) for wish, here in zip(row + (False,), standings)])

    def test_the_row_without_truths(self):
        road = RowRoad([])
        self.assertEqual([road.loses(HALL, BEGINNING, 0) for asking in range(3)], [False] * 3)

    def test_a_row_of_three_hundred(self):
        row = [number % 3 == 0 for number in range(300)]
        road = RowRoad(row)
        self.assertEqual([road.loses(HALL, BEGINNING, 0) for asking in range(400)], row + [False] * 100)

    def test_what_is_done_to_the_row_changes_nothing(self):
        row = [True, False]
        road = RowRoad(row)
        row[0] = False
        row[1] = True
        row.append(True)
        self.assertEqual([road.loses(HALL, BEGINNING, 0) for asking in range(3)], [True, False, False])
        self.assertEqual(row, [False, True, True])
        road = RowRoad(row)
        row.clear()
        self.assertEqual([road.loses(HALL, BEGINNING, 0) for asking in range(4)], [False, True, True, False])

    def test_one_ones_askings_do_not_change_anothers(self):
        row = [True, False, True]
        one, other = RowRoad(row), RowRoad(row)
        self.assertEqual([one.loses(HALL, BEGINNING, 0) for asking in range(3)], row)
        self.assertEqual([other.loses(HALL, BEGINNING, 0) for asking in range(3)], row)
        self.assertEqual(row, [True, False, True])


class RoadByAPaper(unittest.TestCase):
    def test_as_the_answers_tell_for_the_standing_and_the_listener_in_any_order(self):
        paper = [
            (((3, 3), 0), 4, (True, False)), (((3, 2), 0), 3, (False, True)), (((2, 3), 0), 2, (True, True)),
            (((2, 2), 0), 1, (False, False)),
        ]
        for order in itertools.permutations(paper):
            road = PaperRoad(list(order))
            for standing, rank, answers in paper:
                for who in [0, 1]:
                    self.assertIs(road.loses(HALL, standing, who), answers[who])

    def test_a_standing_that_is_not_in_it(self):
        road = PaperRoad([(((3, 2), 0), 1, (True, True))])
        self.assertIs(road.loses(HALL, ((3, 2), 0), 0), True)
        for standing in every_standing(HALL):
            if standing != ((3, 2), 0):
                self.assertIs(road.loses(HALL, standing, 0), False)

    def test_the_paper_without_standings(self):
        self.assertIs(PaperRoad([]).loses(HALL, BEGINNING, 0), False)

    def test_where_it_may_not_lose_it_never_does(self):
        road = PaperRoad([(standing, 1, (True, True)) for standing in every_standing(HALL)])
        for standing in every_standing(HALL):
            self.assertIs(road.loses(HALL, standing, 1), standing[1] == 0)
        hall = ((3, 3), None)
        road = PaperRoad([(standing, 1, (True, True)) for standing in every_standing(hall)])
        for standing in every_standing(hall):
            self.assertIs(road.loses(hall, standing, 0), False)

    def test_asked_again_it_answers_the_same(self):
        road = PaperRoad([(((3, 2), 0), 1, (True, False))])
        self.assertEqual([road.loses(HALL, ((3, 2), 0), asking % 2) for asking in range(4)], [True, False] * 2)

    def test_told_broken_papers(self):
        for hall in small_halls():
            paper = broken_paper(hall)
            if paper is not None:
                road = PaperRoad(paper)
                listed = {standing: answers for standing, rank, answers in paper}
                for standing in every_standing(hall):
                    for who in range(len(hall[0])):
                        told = road.loses(hall, standing, who)
                        self.assertIs(told, standing in listed and listed[standing][who])
                        self.assertIn(told, what_the_road_can_do(hall, standing))

    def test_what_is_done_to_the_paper_changes_nothing(self):
        paper = [(((3, 2), 0), 1, (True, False)), (((2, 3), 0), 1, (False, True))]
        road = PaperRoad(paper)
        self.assertIs(road.loses(HALL, ((3, 2), 0), 0), True)
        paper[0] = (((3, 2), 0), 1, (False, False))
        paper.append((((1, 1), 0), 1, (True, True)))
        self.assertIs(road.loses(HALL, ((3, 2), 0), 0), True)
        self.assertIs(road.loses(HALL, ((1, 1), 0), 0), False)
        paper.clear()
        self.assertIs(road.loses(HALL, ((2, 3), 0), 1), True)

    def test_the_paper_stays_as_it_was(self):
        paper = [(((3, 2), 0), 1, (True, False)), (((2, 3), 0), 1, (False, True))]
        was = list(paper)
        road = PaperRoad(paper)
        for standing in every_standing(HALL):
            road.loses(HALL, standing, 1)
        self.assertEqual(paper, was)

    def test_papers_beside_one_another(self):
        one = PaperRoad([(((3, 2), 0), 1, (True, True))])
        other = PaperRoad([(((2, 3), 0), 1, (True, True))])
        self.assertEqual([one.loses(HALL, ((3, 2), 0), 0), one.loses(HALL, ((2, 3), 0), 0)], [True, False])
        self.assertEqual([other.loses(HALL, ((3, 2), 0), 0), other.loses(HALL, ((2, 3), 0), 0)], [False, True])


if __name__ == "__main__":
    unittest.main()
