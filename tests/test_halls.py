"""Points 2 and 5 to 9 and the interface of roundcall.halls."""

import inspect
import itertools
import unittest

from roundcall import halls
from roundcall.errors import NoHall, NoListener, NoLoss, TooMany
from roundcall.halls import after, beginning, broken_ones, hall_of, how_many, may_lose, standings

GREAT = 10 ** 100 - 1


def small_halls():
    for waits in [[1], [2], [4], [1, 1], [2, 3], [3, 2], [1, 3, 2], [2, 2, 2]]:
        for calm in [None, 1, 2, 3]:
            yield hall_of(waits, calm)


class Interface(unittest.TestCase):
    def test_names_arguments_and_defaults(self):
        forms = {
            "hall_of": "(waits, calm=None)",
            "beginning": "(hall)",
            "may_lose": "(hall, standing)",
            "after": "(hall, standing, who, lost=False)",
            "broken_ones": "(hall, standing, who, lost=False)",
            "how_many": "(hall)",
            "standings": "(hall)",
        }
        for name, form in forms.items():
            with self.subTest(name=name):
                self.assertEqual(str(inspect.signature(getattr(halls, name))), form)


class WhatIsHandedInAndTold(unittest.TestCase):
    def test_waits_are_neither_changed_nor_kept(self):
        waits = [5, 2, 3]
        hall = hall_of(waits, 4)
        self.assertEqual(waits, [5, 2, 3])
        waits[0] = 9
        waits.append(1)
        self.assertEqual(hall, ((5, 2, 3), 4))
        self.assertEqual(beginning(hall), ((5, 2, 3), 0))

    def test_a_told_list_of_standings_is_the_askers_own(self):
        hall = hall_of([2, 2], 1)
        one = standings(hall)
        was = list(one)
        other = standings(hall)
        one.reverse()
        one.pop()
        self.assertEqual(other, was)
        self.assertEqual(standings(hall), was)

    def test_a_told_list_of_broken_ones_is_the_askers_own(self):
        hall = hall_of([3, 3, 3])
        one = broken_ones(hall, ((1, 1, 2), 0), 2)
        one.append(7)
        self.assertEqual(broken_ones(hall, ((1, 1, 2), 0), 2), [0, 1])
        none = broken_ones(hall, ((3, 3, 3), 0), 2)
        none.append(7)
        self.assertEqual(broken_ones(hall, ((3, 3, 3), 0), 2), [])

    def test_great_numbers_are_answered_like_small_ones(self):
        hall = hall_of([GREAT, 2, GREAT], GREAT)
        self.assertEqual(hall, ((GREAT, 2, GREAT), GREAT))
        begin = beginning(hall)
        self.assertEqual(begin, ((GREAT, 2, GREAT), 0))
        lost = after(hall, begin, 0, True)
        self.assertEqual(lost, ((GREAT - 1, 1, GREAT - 1), GREAT))
        self.assertIs(may_lose(hall, lost), False)
        self.assertEqual(after(hall, lost, 1), ((GREAT - 2, 2, GREAT - 2), GREAT - 1))
        self.assertEqual(broken_ones(hall, lost, 2), [1])
        self.assertEqual(how_many(hall), GREAT * 2 * GREAT * 10 ** 100)
        with self.assertRaises(TooMany):
            standings(hall)
        for who in [GREAT, -GREAT]:
            with self.assertRaises(NoListener):
                after(hall, begin, who)
        with self.assertRaises(NoHall):
            hall_of([GREAT, -GREAT])
        with self.assertRaises(NoHall):
            hall_of([GREAT], -GREAT)


class Halls(unittest.TestCase):
    def test_calm_is_none_where_it_is_left_out(self):
        self.assertEqual(hall_of([2, 3]), ((2, 3), None))

    def test_calm_as_it_is_told(self):
        for calm in [None, 1, 2, 40]:
            with self.subTest(calm=calm):
                self.assertEqual(hall_of([2, 3], calm), ((2, 3), calm))

    def test_one_listener(self):
        self.assertEqual(hall_of([1]), ((1,), None))
        self.assertEqual(hall_of([6], 1), ((6,), 1))

    def test_eight_listeners(self):
        waits = [8, 1, 7, 2, 6, 3, 5, 4]
        self.assertEqual(hall_of(waits, 2), ((8, 1, 7, 2, 6, 3, 5, 4), 2))

    def test_waits_are_a_tuple_in_their_order(self):
        hall = hall_of([3, 1, 2, 3])
        self.assertIs(type(hall), tuple)
        self.assertIs(type(hall[0]), tuple)
        self.assertEqual(hall[0], (3, 1, 2, 3))

    def test_no_waits(self):
        for calm in [None, 1, 0]:
            with self.assertRaises(NoHall):
                hall_of([], calm)

    def test_nine_waits_and_more(self):
        for size in [9, 10, 300]:
            with self.subTest(size=size):
                with self.assertRaises(NoHall):
                    hall_of([5] * size)
                with self.assertRaises(NoHall):
                    hall_of([5] * size, 3)

    def test_a_wait_below_one_at_any_place(self):
        for size in [1, 2, 8]:
            for place in range(size):
                for wait in [0, -1, -50]:
                    waits = [4] * size
                    waits[place] = wait
                    with self.subTest(waits=waits):
                        with self.assertRaises(NoHall):
                            hall_of(waits)

    def test_a_calm_below_one(self):
        for calm in [0, -1, -50]:
            with self.subTest(calm=calm):
                with self.assertRaises(NoHall):
                    hall_of([4, 4], calm)


class Beginnings(unittest.TestCase):
    def test_all_waits_are_left_and_nothing_is_quiet(self):
        self.assertEqual(beginning(hall_of([3, 1, 2])), ((3, 1, 2), 0))
        self.assertEqual(beginning(hall_of([3, 1, 2], 5)), ((3, 1, 2), 0))
        self.assertEqual(beginning(hall_of([1], 1)), ((1,), 0))


class Losing(unittest.TestCase):
    def test_a_road_without_calm_loses_nothing(self):
        self.assertIs(may_lose(hall_of([3, 3]), ((2, 3), 0)), False)

    def test_a_road_with_calm_loses_just_at_quiet_zero(self):
        hall = hall_of([3, 3], 3)
        self.assertIs(may_lose(hall, ((2, 3), 0)), True)
        for quiet in [1, 2, 3]:
            self.assertIs(may_lose(hall, ((2, 3), quiet)), False)
        self.assertIs(may_lose(hall_of([3], 1), ((1,), 0)), True)


class Turns(unittest.TestCase):
    def test_the_reached_one_has_its_whole_wait_and_the_others_one_less(self):
        hall = hall_of([5, 4, 3])
        self.assertEqual(after(hall, ((5, 4, 3), 0), 0), ((5, 3, 2), 0))
        self.assertEqual(after(hall, ((5, 3, 2), 0), 2), ((4, 2, 3), 0))
        self.assertEqual(after(hall, ((2, 3, 2), 0), 1), ((1, 4, 1), 0))

    def test_lost_is_false_where_it_is_left_out(self):
        hall = hall_of([5, 4], 2)
        standing = ((3, 3), 0)
        self.assertEqual(after(hall, standing, 0), after(hall, standing, 0, False))
        self.assertEqual(broken_ones(hall, ((1, 3), 0), 0), [])

    def test_a_called_one_that_was_lost_has_one_less(self):
        hall = hall_of([5, 4, 3], 2)
        self.assertEqual(after(hall, ((5, 4, 3), 0), 0, True), ((4, 3, 2), 2))
        self.assertEqual(after(hall, ((2, 4, 3), 0), 2, True), ((1, 3, 2), 2))

    def test_a_called_one_with_one_left_is_broken_by_a_loss(self):
        hall = hall_of([5, 4, 3], 2)
        self.assertIsNone(after(hall, ((1, 4, 3), 0), 0, True))
        self.assertEqual(broken_ones(hall, ((1, 4, 3), 0), 0, True), [0])
        self.assertEqual(after(hall, ((1, 4, 3), 0), 0), ((5, 3, 2), 0))
        self.assertEqual(broken_ones(hall, ((1, 4, 3), 0), 0), [])

    def test_one_left_and_not_called_is_broken(self):
        hall = hall_of([5, 4, 3])
        self.assertIsNone(after(hall, ((2, 1, 3), 0), 0))
        self.assertEqual(broken_ones(hall, ((2, 1, 3), 0), 0), [1])
        self.assertIsNone(after(hall, ((2, 4, 1), 0), 0))
        self.assertEqual(broken_ones(hall, ((2, 4, 1), 0), 0), [2])

    def test_a_wait_of_one(self):
        hall = hall_of([1], 1)
        self.assertEqual(after(hall, ((1,), 0), 0), ((1,), 0))
        self.assertIsNone(after(hall, ((1,), 0), 0, True))
        self.assertEqual(broken_ones(hall, ((1,), 0), 0, True), [0])
        pair = hall_of([1, 1])
        for who in [0, 1]:
            self.assertIsNone(after(pair, ((1, 1), 0), who))
            self.assertEqual(broken_ones(pair, ((1, 1), 0), who), [1 - who])

    def test_all_the_broken_ones_are_told_rising(self):
        hall = hall_of([2, 3, 4, 5, 2], 3)
        standing = ((1, 2, 1, 1, 1), 0)
        self.assertEqual(broken_ones(hall, standing, 2), [0, 3, 4])
        self.assertEqual(broken_ones(hall, standing, 1), [0, 2, 3, 4])
        self.assertEqual(broken_ones(hall, standing, 2, True), [0, 2, 3, 4])
        self.assertIsNone(after(hall, standing, 2))
        eight = hall_of([1] * 8, 1)
        self.assertEqual(broken_ones(eight, beginning(eight), 3, True), [0, 1, 2, 3, 4, 5, 6, 7])
        self.assertEqual(broken_ones(eight, beginning(eight), 7), [0, 1, 2, 3, 4, 5, 6])

    def test_quiet_behind_a_lost_call_is_calm(self):
        for calm in [1, 2, 7]:
            with self.subTest(calm=calm):
                self.assertEqual(after(hall_of([4, 4], calm), ((4, 4), 0), 0, True), ((3, 3), calm))

    def test_quiet_behind_another_call_is_one_less_and_never_below_zero(self):
        hall = hall_of([4, 4], 3)
        for quiet, behind in [(3, 2), (2, 1), (1, 0), (0, 0)]:
            with self.subTest(quiet=quiet):
                self.assertEqual(after(hall, ((4, 4), quiet), 0), ((4, 3), behind))

    def test_every_turn_of_small_halls_leads_to_a_standing_or_breaks(self):
        for hall in small_halls():
            known = standings(hall)
            for standing in known:
                for who in range(len(hall[0])):
                    for lost in [False, True] if may_lose(hall, standing) else [False]:
                        behind = after(hall, standing, who, lost)
                        broken = broken_ones(hall, standing, who, lost)
                        wanted = [
                            number for number, left in enumerate(standing[0])
                            if left == 1 and (lost or number != who)
                        ]
                        self.assertEqual(broken, wanted)
                        self.assertEqual(behind is None, broken != [])
                        if behind is not None:
                            self.assertIn(behind, known)


class RefusedTurns(unittest.TestCase):
    def ask_each(self, error, hall, standing, who, lost):
        for ask in (after, broken_ones):
            with self.subTest(ask=ask.__name__, who=who, lost=lost):
                with self.assertRaises(error):
                    ask(hall, standing, who, lost)

    def test_a_who_that_is_no_listener(self):
        for waits in [[4], [4, 4, 4], [4] * 8]:
            for who in [-1, -len(waits), len(waits), len(waits) + 1, 1000, -1000]:
                for lost in [False, True]:
                    left = tuple(waits)
                    self.ask_each(NoListener, hall_of(waits, 2), (left, 0), who, lost)
                    self.ask_each(NoListener, hall_of(waits, 2), (left, 1), who, lost)
                    self.ask_each(NoListener, hall_of(waits), (left, 0), who, lost)

    def test_a_who_that_is_no_listener_where_somebody_would_be_broken(self):
        for lost in [False, True]:
            self.ask_each(NoListener, hall_of([1, 1], 1), ((1, 1), 0), 2, lost)
            self.ask_each(NoListener, hall_of([1, 1]), ((1, 1), 0), -1, lost)

    def test_a_loss_where_the_road_may_not_lose(self):
        for who in [0, 1]:
            self.ask_each(NoLoss, hall_of([4, 4]), ((3, 3), 0), who, True)
            self.ask_each(NoLoss, hall_of([4, 4], 2), ((3, 3), 1), who, True)
            self.ask_each(NoLoss, hall_of([4, 4], 2), ((3, 3), 2), who, True)

    def test_a_loss_is_refused_also_where_somebody_would_be_broken(self):
        for who in [0, 1]:
            self.ask_each(NoLoss, hall_of([4, 4]), ((1, 1), 0), who, True)
            self.ask_each(NoLoss, hall_of([4, 4], 2), ((1, 3), 2), who, True)

    def test_the_first_and_the_last_listener_are_not_refused(self):
        hall = hall_of([4, 4, 4], 1)
        self.assertEqual(after(hall, ((2, 2, 2), 0), 0), ((4, 1, 1), 0))
        self.assertEqual(after(hall, ((2, 2, 2), 0), 2), ((1, 1, 4), 0))


class ListsOfStandings(unittest.TestCase):
    def test_how_many_without_calm(self):
        self.assertEqual(how_many(hall_of([1])), 1)
        self.assertEqual(how_many(hall_of([2, 3, 4])), 24)
        self.assertEqual(how_many(hall_of([10 ** 90, 3])), 3 * 10 ** 90)

    def test_how_many_with_calm(self):
        self.assertEqual(how_many(hall_of([1], 1)), 2)
        self.assertEqual(how_many(hall_of([2, 3, 4], 5)), 144)
        self.assertEqual(how_many(hall_of([GREAT] * 8, GREAT)), GREAT ** 8 * 10 ** 100)

    def test_the_list_in_its_order(self):
        self.assertEqual(standings(hall_of([1])), [((1,), 0)])
        self.assertEqual(
            standings(hall_of([2, 3])),
            [((1, 1), 0), ((1, 2), 0), ((1, 3), 0), ((2, 1), 0), ((2, 2), 0), ((2, 3), 0)],
        )
        self.assertEqual(
            standings(hall_of([2, 1], 2)),
            [((1, 1), 0), ((1, 1), 1), ((1, 1), 2), ((2, 1), 0), ((2, 1), 1), ((2, 1), 2)],
        )

    def test_the_list_has_every_standing_once_and_sorted(self):
        for hall in small_halls():
            with self.subTest(hall=hall):
                lefts = itertools.product(*[range(1, wait + 1) for wait in hall[0]])
                quiets = range((hall[1] or 0) + 1)
                wanted = sorted(itertools.product(lefts, quiets))
                self.assertEqual(standings(hall), wanted)
                self.assertEqual(how_many(hall), len(wanted))

    def test_just_three_thousand_are_told(self):
        for hall in [
            hall_of([3000]), hall_of([1500], 1), hall_of([10, 15, 20]),
            hall_of([10, 10, 10], 2), hall_of([1], 2999), hall_of([2, 2, 2, 3, 5, 5, 5, 1]),
        ]:
            with self.subTest(hall=hall):
                self.assertEqual(how_many(hall), 3000)
                told = standings(hall)
                self.assertEqual(len(told), 3000)
                self.assertEqual(told, sorted(told))
                self.assertEqual(told[-1], (hall[0], hall[1] or 0))

    def test_more_than_three_thousand_are_refused(self):
        for hall in [
            hall_of([3001]), hall_of([1], 3000), hall_of([1501], 1), hall_of([3000], 1),
            hall_of([55, 55]), hall_of([3] * 8), hall_of([GREAT] * 8), hall_of([GREAT] * 8, GREAT),
            hall_of([1], GREAT), hall_of([GREAT, 1]),
        ]:
            with self.subTest(hall=hall):
                with self.assertRaises(TooMany):
                    standings(hall)


if __name__ == "__main__":
    unittest.main()
