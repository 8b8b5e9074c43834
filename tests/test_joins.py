"""Points 2, 3, 31 and 32 and the interface of roundcall.joins."""

import functools
import inspect
import itertools
import unittest

from roundcall import joins
from roundcall.errors import NoHall, NoListener, TooMany, Unsafe
from roundcall.halls import beginning, hall_of, how_many
from roundcall.joins import joined, left_out, may_join, way_in
from roundcall.rounds import walked
from tests.plain import GREAT, every_standing, plain_ranks, small_halls, turn

known_ranks = functools.lru_cache(maxsize=None)(plain_ranks)


def plain_may_join(hall, standing, wait):
    return (standing[0] + (wait,), standing[1]) not in known_ranks((hall[0] + (wait,), hall[1]))


def plain_way_length(hall, standing, wait):
    """The least number of calls of a way in, found by looking at all standings that so many calls lead to."""
    unsafe = known_ranks(hall)
    seen = []
    here = {standing}
    while here not in seen:
        if any(plain_may_join(hall, one, wait) for one in here):
            return len(seen)
        seen.append(here)
        behind = {turn(hall, one, who, False) for one in here for who in range(len(hall[0]))}
        here = {one for one in behind if one is not None and one not in unsafe}
    return None


def calm_halls():
    """Halls whose road loses nothing, small enough to be searched with one more listener."""
    for number in [1, 2, 3]:
        for waits in itertools.product([1, 2, 3, 4, 6] if number < 3 else [2, 3, 5], repeat=number):
            yield (waits, None)


class Interface(unittest.TestCase):
    def test_names_and_arguments(self):
        forms = {
            "joined": "(hall, standing, wait)", "left_out": "(hall, standing, who)",
            "may_join": "(hall, standing, wait)", "way_in": "(hall, standing, wait)",
        }
        for name, form in forms.items():
            with self.subTest(name=name):
                self.assertEqual(str(inspect.signature(getattr(joins, name))), form)


class Joined(unittest.TestCase):
    def test_the_hall_and_the_standing_that_come(self):
        self.assertEqual(joined(((3, 2), None), ((1, 2), 0), 5), (((3, 2, 5), None), ((1, 2, 5), 0)))
        self.assertEqual(joined(((3, 2), 4), ((3, 1), 3), 1), (((3, 2, 1), 4), ((3, 1, 1), 3)))
        self.assertEqual(joined(((1,), 1), ((1,), 1), 1), (((1, 1), 1), ((1, 1), 1)))
        self.assertEqual(joined(((2,) * 7, 1), ((1,) * 7, 0), 9), (((2,) * 7 + (9,), 1), ((1,) * 7 + (9,), 0)))

    def test_kinds(self):
        hall, standing = joined(hall_of([3, 2], 4), ((3, 1), 3), 5)
        self.assertIs(type(joined(hall_of([3]), ((3,), 0), 5)), tuple)
        self.assertEqual([type(thing) for thing in (hall, hall[0], standing, standing[0])], [tuple] * 4)
        self.assertEqual([type(number) for number in hall[0] + standing[0]], [int] * 6)

    def test_waits_of_a_hundred_figures(self):
        told = joined(((GREAT, 2), GREAT), ((GREAT - 1, 2), GREAT), GREAT)
        self.assertEqual(told, (((GREAT, 2, GREAT), GREAT), ((GREAT - 1, 2, GREAT), GREAT)))

    def test_a_wait_of_0_and_below(self):
        for wait in [0, -1, -7, -GREAT]:
            for hall in [((3, 2), None), ((3, 2), 1), ((3,) * 8, None)]:
                with self.subTest(wait=wait, hall=hall):
                    with self.assertRaises(NoHall):
                        joined(hall, beginning(hall), wait)

    def test_eight_already(self):
        for calm in [None, 1]:
            hall = ((9,) * 8, calm)
            for wait in [1, 9, GREAT]:
                with self.assertRaises(NoHall):
                    joined(hall, beginning(hall), wait)

    def test_it_need_not_be_safe_and_may_be_of_many_standings(self):
        self.assertEqual(joined(((1,), None), ((1,), 0), 1), (((1, 1), None), ((1, 1), 0)))
        self.assertEqual(joined(((3000,), 9), ((1,), 9), 3000), (((3000, 3000), 9), ((1, 3000), 9)))


class LeftOut(unittest.TestCase):
    def test_the_hall_and_the_standing_that_come(self):
        hall, standing = ((3, 2, 5), 4), ((1, 2, 4), 3)
        self.assertEqual(left_out(hall, standing, 0), (((2, 5), 4), ((2, 4), 3)))
        self.assertEqual(left_out(hall, standing, 1), (((3, 5), 4), ((1, 4), 3)))
        self.assertEqual(left_out(hall, standing, 2), (((3, 2), 4), ((1, 2), 3)))
        self.assertEqual(left_out(((3, 2), None), ((1, 2), 0), 0), (((2,), None), ((2,), 0)))
        self.assertEqual(left_out(((3, 2), None), ((1, 2), 0), 1), (((3,), None), ((1,), 0)))

    def test_of_eight(self):
        waits = (11, 12, 13, 14, 15, 16, 17, 18)
        left = (1, 2, 3, 4, 5, 6, 7, 8)
        for who in range(8):
            keep = [number for number in range(8) if number != who]
            told = left_out((waits, 1), (left, 0), who)
            smaller = (tuple(waits[number] for number in keep), 1)
            self.assertEqual(told, (smaller, (tuple(left[number] for number in keep), 0)))

    def test_who_joined_leaves_again(self):
        for hall in small_halls():
            if len(hall[0]) < 8:
                for standing in every_standing(hall)[::3]:
                    came = joined(hall, standing, 7)
                    self.assertEqual(left_out(came[0], came[1], len(hall[0])), (hall, standing))

    def test_numbers_of_a_hundred_figures(self):
        told = left_out(((GREAT, 2, GREAT), GREAT), ((5, 2, GREAT - 1), GREAT), 1)
        self.assertEqual(told, (((GREAT, GREAT), GREAT), ((5, GREAT - 1), GREAT)))

    def test_a_number_that_is_none_of_a_listener(self):
        for hall in [((3, 2), None), ((3, 2), 2), ((4,) * 8, 1)]:
            for who in [-1, -2, len(hall[0]), len(hall[0]) + 1, GREAT, -GREAT]:
                with self.subTest(hall=hall, who=who):
                    with self.assertRaises(NoListener):
                        left_out(hall, beginning(hall), who)

    def test_the_only_one(self):
        for hall in [((3,), None), ((1,), 2)]:
            with self.assertRaises(NoHall):
                left_out(hall, beginning(hall), 0)

    def test_no_such_number_goes_ahead_of_the_only_one(self):
        for who in [-1, 1, 5, GREAT]:
            with self.assertRaises(NoListener):
                left_out(((3,), None), ((3,), 0), who)


class MayJoin(unittest.TestCase):
    def test_written_out(self):
        self.assertIs(may_join(((2,), None), ((2,), 0), 2), True)
        self.assertIs(may_join(((2,), None), ((1,), 0), 2), True)
        self.assertIs(may_join(((2,), None), ((1,), 0), 1), False)
        self.assertIs(may_join(((2,), None), ((2,), 0), 1), False)
        self.assertIs(may_join(((2, 2), None), ((2, 2), 0), 9), False)
        self.assertIs(may_join(((3, 3), None), ((1, 1), 0), 3), False)

    def test_where_the_road_may_lose(self):
        self.assertIs(may_join(((6,), 7), ((6,), 0), 6), True)
        self.assertIs(may_join(((3,), 1), ((3,), 0), 3), False)

    def test_small_halls_against_the_words_of_the_document(self):
        told = {sort: 0 for sort in itertools.product([True, False], repeat=2)}
        halls = list(calm_halls())[:30] + list(small_halls())[:120:3] + [((6,), 7), ((4, 4), 2), ((3, 3), 4)]
        for hall in halls:
            for wait in [1, 2, 3, 5]:
                for standing in every_standing(hall):
                    answer = may_join(hall, standing, wait)
                    told[hall[1] is None, answer] += 1
                    self.assertIs(answer, plain_may_join(hall, standing, wait), (hall, standing, wait))
        self.assertGreater(min(told.values()), 20)

    def test_at_a_standing_that_is_not_safe(self):
        for hall, standing in [(((3, 3), None), ((1, 1), 0)), (((2,), 1), ((1,), 0)), (((1, 1), None), ((1, 1), 0))]:
            self.assertIn(standing, known_ranks(hall))
            for wait in [1, 2, 50]:
                self.assertIs(may_join(hall, standing, wait), False)

    def test_the_quiet_of_the_standing_counts(self):
        hall = ((3,), 2)
        self.assertEqual([may_join(hall, ((1,), quiet), 3) for quiet in range(3)], [False, True, True])

    def test_refused_with_no_hall_ahead_of_too_many(self):
        for hall, wait in [(((3,), None), 0), (((3,), 2), -1), (((1,) * 8, None), 1), (((9,) * 8, 9), 5)]:
            with self.assertRaises(NoHall):
                may_join(hall, beginning(hall), wait)
        for wait in [0, -GREAT]:
            with self.assertRaises(NoHall):
                may_join(((GREAT,), 1), ((GREAT,), 0), wait)

    def test_refused_with_too_many_by_the_hall_that_comes(self):
        for hall, wait in [
            (((3000,), None), 2), (((1500,), None), 3), (((1500,), 1), 2), (((3001,), None), 1), (((2,), None), GREAT),
            (((GREAT,), GREAT), GREAT), (((1,), 2999), 2),
        ]:
            with self.subTest(hall=hall, wait=wait):
                with self.assertRaises(TooMany):
                    may_join(hall, beginning(hall), wait)

    def test_halls_of_just_three_thousand_are_answered(self):
        for hall, wait in [(((3000,), None), 1), (((1500,), None), 2), (((1000,), 2), 1), (((10, 10), 5), 5)]:
            self.assertEqual(how_many((hall[0] + (wait,), hall[1])), 3000)
        self.assertIs(may_join(((3000,), None), ((3000,), 0), 1), False)
        self.assertIs(may_join(((1500,), None), ((1500,), 0), 2), True)
        self.assertIs(may_join(((10, 10), 5), ((10, 10), 0), 5), True)


class WayIn(unittest.TestCase):
    def check_way(self, hall, standing, wait, way):
        self.assertIs(type(way), list)
        unsafe = known_ranks(hall)
        for turns in range(len(way) + 1):
            came = walked(hall, standing, way[:turns], [False] * turns)
            self.assertEqual(came[0], turns)
            self.assertIsNotNone(came[1])
            self.assertNotIn(came[1], unsafe)
        self.assertTrue(plain_may_join(hall, came[1], wait))

    def test_written_out(self):
        self.assertEqual(way_in(((2,), None), ((2,), 0), 2), [])
        self.assertIsNone(way_in(((2, 2), None), ((2, 2), 0), 99))
        self.assertIsNone(way_in(((1,), None), ((1,), 0), 1))
        # With the newcomer there at once three would have to be reached in two turns.
        self.assertEqual(way_in(((4, 4), None), ((2, 1), 0), 2), [1])
        self.assertEqual(way_in(((2, 8, 8), None), ((1, 2, 5), 0), 4), [0, 1])

    def test_against_a_plain_search(self):
        lengths = {}
        for hall in list(calm_halls()) + [((2, 8, 8), None)]:
            for wait in [1, 2, 4, 5]:
                for standing in every_standing(hall)[::1 if len(hall[0]) < 3 else 5]:
                    if standing not in known_ranks(hall):
                        way = way_in(hall, standing, wait)
                        expected = plain_way_length(hall, standing, wait)
                        length = None if way is None else len(way)
                        lengths[length] = lengths.get(length, 0) + 1
                        self.assertEqual(length, expected, (hall, standing, wait))
                        if way is not None:
                            self.check_way(hall, standing, wait, way)
        for length in [None, 0, 1, 2]:
            self.assertGreater(lengths.get(length, 0), 0, lengths)

    def test_empty_just_where_it_may_join_at_once(self):
        for hall in [((4, 4), None), ((3, 6), None), ((2, 6, 6), None)]:
            for standing in every_standing(hall):
                if standing not in known_ranks(hall):
                    for wait in [2, 3, 4, 6]:
                        self.assertIs(way_in(hall, standing, wait) == [], plain_may_join(hall, standing, wait))

    def test_the_told_list_is_the_askers_own(self):
        hall = ((4, 4), None)
        for standing in [((2, 1), 0), ((4, 4), 0)]:
            was = list(way_in(hall, standing, 2))
            way_in(hall, standing, 2).append(7)
            self.assertEqual(way_in(hall, standing, 2), was)

    def test_a_hall_whose_road_may_lose(self):
        for hall in [((6,), 7), ((3000,), 3000), ((GREAT,), GREAT), ((1, 1), 1)]:
            with self.assertRaises(NoHall):
                way_in(hall, beginning(hall), 3)

    def test_refused_with_no_hall_as_in_point_31(self):
        for hall, wait in [(((3, 3), None), 0), (((3, 3), None), -4), (((9,) * 8, None), 9), (((1,) * 8, None), 1)]:
            with self.assertRaises(NoHall):
                way_in(hall, beginning(hall), wait)

    def test_refused_with_too_many_by_either_hall(self):
        for hall, wait in [(((3001,), None), 1), (((1501,), None), 2), (((GREAT,), None), 1), (((1,), None), GREAT)]:
            with self.subTest(hall=hall, wait=wait):
                with self.assertRaises(TooMany):
                    way_in(hall, beginning(hall), wait)
        self.assertEqual(way_in(((1500,), None), ((1500,), 0), 2), [])
        self.assertIsNone(way_in(((3000,), None), ((3000,), 0), 1))

    def test_refused_with_unsafe(self):
        for hall, standing in [
            (((3, 3), None), ((1, 1), 0)), (((2, 2, 2), None), ((2, 2, 2), 0)), (((1, 5), None), ((1, 5), 0)),
        ]:
            for wait in [1, 2, 9]:
                with self.assertRaises(Unsafe):
                    way_in(hall, standing, wait)

    def test_the_order_of_the_refusals(self):
        unsafe = ((1, 1), 0)
        with self.assertRaises(NoHall):
            way_in(((3, 3), 9), unsafe, 3000)
        with self.assertRaises(NoHall):
            way_in(((3, 3000), None), unsafe, 0)
        with self.assertRaises(NoHall):
            way_in(((3,) * 8, None), ((1,) * 8, 0), 3)
        with self.assertRaises(TooMany):
            way_in(((3, 3000), None), unsafe, 1)
        with self.assertRaises(TooMany):
            way_in(((3, 3), None), unsafe, 3000)
        with self.assertRaises(Unsafe):
            way_in(((3, 3), None), unsafe, 3)

    def test_a_greater_hall(self):
        hall = ((6, 7, 8), None)
        self.assertLessEqual(how_many((hall[0] + (8,), None)), 3000)
        for standing in [((6, 7, 8), 0), ((1, 2, 3), 0), ((3, 2, 1), 0), ((2, 3, 1), 0)]:
            way = way_in(hall, standing, 3)
            here = walked(hall, standing, way, [False] * len(way))[1]
            self.assertTrue(may_join(hall, here, 3))
            for who in way[:1]:
                self.assertFalse(may_join(hall, standing, 3))


if __name__ == "__main__":
    unittest.main()
