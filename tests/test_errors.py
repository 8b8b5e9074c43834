"""Point 3 and the interface of roundcall.errors."""

import inspect
import unittest

from roundcall import errors
from roundcall.chains import best_base, chain_wheel, doubled, wheel_for
from roundcall.desk import Desk
from roundcall.halls import after, beginning, broken_ones, hall_of, standings
from roundcall.joins import joined, left_out, may_join, way_in
from roundcall.nests import Many, One, grouped
from roundcall.papers import broken_paper, kept_paper
from roundcall.plays import paper_round
from roundcall.rounds import walked
from roundcall.settle import ranks, worst_answer
from roundcall.wheels import called_times, next_turn, wheel_of

REFUSALS = [
    "NoHall", "NoListener", "NoLoss", "TooMany", "NoWheel", "NoChain",
    "TooMuch", "NoPart", "Unsafe", "NoRow", "NoStand",
]


class ErrorClasses(unittest.TestCase):
    def test_round_error_stands_straight_under_value_error(self):
        self.assertEqual(errors.RoundError.__bases__, (ValueError,))

    def test_every_refusal_stands_straight_under_round_error(self):
        for name in REFUSALS:
            with self.subTest(name=name):
                self.assertEqual(getattr(errors, name).__bases__, (errors.RoundError,))

    def test_no_refusal_stands_under_another_one(self):
        for one in REFUSALS:
            for other in REFUSALS:
                if one != other:
                    with self.subTest(one=one, other=other):
                        self.assertFalse(issubclass(getattr(errors, one), getattr(errors, other)))

    def test_the_classes_are_those_of_the_document(self):
        told = [name for name, value in vars(errors).items() if inspect.isclass(value)]
        self.assertEqual(sorted(told), sorted(REFUSALS + ["RoundError"]))

    def test_each_is_raised_and_taken_as_a_round_error(self):
        for name in REFUSALS:
            with self.subTest(name=name):
                with self.assertRaises(errors.RoundError):
                    raise getattr(errors, name)("words")


class RefusalsOfWheels(unittest.TestCase):
    def test_each_is_of_just_the_class_that_is_named(self):
        for refusal, ask, handed in [
            (errors.NoWheel, wheel_of, ([(2, 2)],)),
            (errors.NoWheel, wheel_of, ([(2, 0), (3, 0)],)),
            (errors.NoListener, next_turn, ([(2, 0)], 1, 0)),
            (errors.NoListener, called_times, ([(2, 0)], -1, 0, 9)),
            (errors.NoWheel, chain_wheel, ([0],)),
            (errors.NoChain, chain_wheel, ([2, 3],)),
            (errors.TooMuch, chain_wheel, ([1, 2],)),
            (errors.NoWheel, doubled, ([2], 3)),
            (errors.NoWheel, best_base, ([],)),
            (errors.NoWheel, wheel_for, ([0],)),
            (errors.NoPart, Many, ([(1, 0)], [])),
            (errors.NoPart, Many, ([(2, 0), (2, 1)], [One("a"), One("a")])),
            (errors.NoWheel, grouped, ([],)),
            (errors.NoPart, grouped, ([(3, [("a", 9), ("a", 9)])],)),
        ]:
            with self.subTest(ask=ask, handed=handed):
                with self.assertRaises(errors.RoundError) as caught:
                    ask(*handed)
                self.assertIs(type(caught.exception), refusal)


class RefusalsOfComingAndGoing(unittest.TestCase):
    def test_each_is_of_just_the_class_that_is_named(self):
        hall, calm_hall, unsafe = ((3, 3), None), ((3, 3), 2), ((1, 1), 0)
        for refusal, ask, handed in [
            (errors.TooMany, paper_round, (((3001,), None),)),
            (errors.NoHall, joined, (hall, unsafe, 0)),
            (errors.NoListener, left_out, (hall, unsafe, 2)),
            (errors.NoHall, left_out, (((3,), None), ((3,), 0), 0)),
            (errors.NoHall, may_join, (hall, unsafe, 0)),
            (errors.TooMany, may_join, (hall, unsafe, 3000)),
            (errors.NoHall, way_in, (calm_hall, unsafe, 3)),
            (errors.TooMany, way_in, (hall, unsafe, 3000)),
            (errors.Unsafe, way_in, (hall, unsafe, 3)),
        ]:
            with self.subTest(ask=ask, handed=handed):
                with self.assertRaises(errors.RoundError) as caught:
                    ask(*handed)
                self.assertIs(type(caught.exception), refusal)

    def test_at_a_desk_too(self):
        desk = Desk()
        for row, refusal in [
            ("call", errors.NoRow), (None, errors.NoRow), ("call 0", errors.NoStand), ("turn 0", errors.NoStand),
            ("hall 0", errors.NoHall), ("hall 3001", errors.TooMany), ("wheel 0", errors.NoWheel), ("hall 2 2", None),
            ("call 2", errors.NoListener), ("lost 0", errors.NoLoss), ("join 2", errors.Unsafe),
            ("join 0", errors.NoHall), ("join 3000", errors.TooMany), ("leave 2", errors.NoListener),
            ("answer 2", errors.NoListener), ("leave 0", None), ("leave 0", errors.NoHall),
        ]:
            with self.subTest(row=row):
                if refusal is None:
                    desk.told(row)
                else:
                    with self.assertRaises(errors.RoundError) as caught:
                        desk.told(row)
                    self.assertIs(type(caught.exception), refusal)


class RefusalsChangeNothing(unittest.TestCase):
    def test_refused_waits_stay_as_they_were(self):
        for waits in [[], [2, 0, 3], [1] * 9]:
            was = list(waits)
            with self.assertRaises(errors.NoHall):
                hall_of(waits)
            self.assertEqual(waits, was)

    def test_waits_refused_for_their_calm_are_taken_with_another(self):
        waits = [2, 3]
        with self.assertRaises(errors.NoHall):
            hall_of(waits, 0)
        self.assertEqual(hall_of(waits, 1), ((2, 3), 1))

    def test_a_refused_turn_leaves_the_answers_as_they_were(self):
        hall = hall_of([3, 2], 2)
        standing = ((2, 1), 1)
        before = (after(hall, standing, 1), broken_ones(hall, standing, 0))
        for ask in (after, broken_ones):
            with self.assertRaises(errors.NoListener):
                ask(hall, standing, 2)
            with self.assertRaises(errors.NoLoss):
                ask(hall, standing, 1, True)
        self.assertEqual((after(hall, standing, 1), broken_ones(hall, standing, 0)), before)
        self.assertEqual((hall, standing), (((3, 2), 2), ((2, 1), 1)))

    def test_refused_standings_leave_other_halls_as_they_were(self):
        small = hall_of([2, 1], 1)
        before = standings(small)
        with self.assertRaises(errors.TooMany):
            standings(hall_of([3001]))
        self.assertEqual(standings(small), before)

    def test_refused_ranks_and_papers_leave_other_halls_as_they_were(self):
        small = hall_of([3, 3], 1)
        before = (ranks(small), kept_paper(small), broken_paper(small))
        for ask in (ranks, kept_paper, broken_paper):
            with self.assertRaises(errors.TooMany):
                ask(hall_of([3001]))
        self.assertEqual((ranks(small), kept_paper(small), broken_paper(small)), before)

    def test_a_refused_answer_leaves_the_table_as_it_was(self):
        hall = hall_of([3, 3], 1)
        table = ranks(hall)
        with self.assertRaises(errors.NoListener):
            worst_answer(hall, table, beginning(hall), 2)
        self.assertEqual(table, ranks(hall))

    def test_a_refused_walk_leaves_its_lists_as_they_were(self):
        hall = hall_of([4, 4])
        calls = [0, 1, 2]
        losses = [False, False, False]
        with self.assertRaises(errors.NoListener):
            walked(hall, beginning(hall), calls, losses)
        self.assertEqual(calls, [0, 1, 2])
        self.assertEqual(losses, [False, False, False])


if __name__ == "__main__":
    unittest.main()
