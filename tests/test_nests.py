"""Points 2, 3, 24, 25 and 26 and the interface of roundcall.nests."""

import inspect
import itertools
import random
import unittest

from roundcall import nests
from roundcall.chains import wheel_for
from roundcall.errors import NoPart, NoWheel
from roundcall.nests import Many, One, Part, grouped
from roundcall.wheels import wheel_of
from tests.plain import GREAT, plain_heard

# A nest in plain things is a name, or a tuple (wheel, nests).
EMPTY = ([], [])
SMALL_NESTS = [
    "a",
    EMPTY,
    ([(1, 0)], ["a"]),
    ([(3, 2)], ["a"]),
    ([(2, 0), (2, 1)], ["a", "b"]),
    ([(2, 1), (4, 0)], ["a", ""]),
    ([(2, 1), (2, 0)], ["a", EMPTY]),
    ([(2, 0)], [EMPTY]),
    ([(2, 1), (4, 2)], [([(2, 1), (2, 0)], ["a", "b"]), "c"]),
    ([(3, 0), (3, 2)], [([(2, 1), (4, 2)], ["b", "a"]), ([(3, 0), (6, 2)], ["d", "c"])]),
    ([(2, 1), (4, 0)], [([(2, 1), (4, 0)], [([(3, 2), (3, 0)], ["x", "y"]), "z"]), ([(2, 1)], [([(1, 0)], ["w"])])]),
    ([(1, 0)], [([(1, 0)], [([(2, 1), (2, 0)], [([(2, 1)], ["deep"]), "high"])])]),
    ([(6, 2), (10, 1), (15, 0)], ["six", ([(2, 0), (2, 1)], ["ten", EMPTY]), "fifteen"]),
]


def made(nest):
    if isinstance(nest, str):
        return One(nest)
    return Many(nest[0], [made(part) for part in nest[1]])


def plain_called(nest, turn):
    """Walks through all turns ahead and counts how many times the wheel called the same number."""
    if isinstance(nest, str):
        return nest
    who = plain_heard(nest[0], turn)
    if not who:
        return None
    own = [plain_heard(nest[0], earlier) for earlier in range(turn)].count(who)
    return plain_called(nest[1][who[0]], own)


def plain_names(nest):
    return [nest] if isinstance(nest, str) else [name for part in nest[1] for name in plain_names(part)]


def plain_depth(nest):
    return 0 if isinstance(nest, str) else 1 + max([0] + [plain_depth(part) for part in nest[1]])


def alone(depth, name="a"):
    """One listener that many wheels deep."""
    part = One(name)
    for level in range(depth):
        part = Many([(1, 0)], [part])
    return part


class Interface(unittest.TestCase):
    def test_names_and_arguments(self):
        forms = {
            Part.called: "(self, turn)", Part.rows: "(self)", Part.depth: "(self)",
            One: "(name)", One.called: "(self, turn)", One.rows: "(self)", One.depth: "(self)",
            Many: "(wheel, parts)", Many.called: "(self, turn)", Many.rows: "(self)", Many.depth: "(self)",
            nests.grouped: "(groups)",
        }
        for thing, form in forms.items():
            with self.subTest(thing=thing):
                self.assertEqual(str(inspect.signature(thing)), form)

    def test_one_and_many_are_parts(self):
        self.assertTrue(issubclass(One, Part))
        self.assertTrue(issubclass(Many, Part))
        self.assertFalse(issubclass(One, Many) or issubclass(Many, One))
        self.assertIsInstance(grouped([(1, [("a", 1)])]), Part)


class OneListener(unittest.TestCase):
    def test_it_is_called_in_every_turn(self):
        for name in ["a", "", "two words", "n" * 3000]:
            part = One(name)
            self.assertEqual([part.called(turn) for turn in [0, 1, 2, GREAT]], [name] * 4)
            self.assertEqual(part.rows(), [(name, 1, 0)])
            self.assertEqual(part.depth(), 0)

    def test_told_rows_are_the_askers_own(self):
        part = One("a")
        part.rows().clear()
        part.rows().append(("b", 1, 0))
        self.assertEqual(part.rows(), [("a", 1, 0)])
        self.assertEqual(part.called(0), "a")


class ManyParts(unittest.TestCase):
    def test_called_against_a_plain_walk(self):
        for nest in SMALL_NESTS:
            part = made(nest)
            for turn in range(75):
                with self.subTest(nest=nest, turn=turn):
                    self.assertEqual(part.called(turn), plain_called(nest, turn))

    def test_rows_against_a_plain_walk(self):
        for nest in SMALL_NESTS:
            rows = made(nest).rows()
            calls = [plain_called(nest, turn) for turn in range(75)]
            with self.subTest(nest=nest):
                self.assertIs(type(rows), list)
                self.assertEqual([type(row) for row in rows], [tuple] * len(rows))
                self.assertEqual([row[0] for row in rows], plain_names(nest))
                for name, period, first in rows:
                    self.assertIn(first, range(period))
                    turns = [turn for turn, called in enumerate(calls) if called == name]
                    self.assertEqual(turns, list(range(first, 75, period)))

    def test_depth_against_the_words_of_the_document(self):
        for nest in SMALL_NESTS:
            with self.subTest(nest=nest):
                self.assertEqual(made(nest).depth(), plain_depth(nest))

    def test_written_out(self):
        inner = Many([(2, 1), (2, 0)], [One("a"), One("b")])
        part = Many([(2, 1), (4, 2)], [inner, One("c")])
        self.assertEqual([part.called(turn) for turn in range(8)], [None, "b", "c", "a", None, "b", "c", "a"])
        self.assertEqual(part.rows(), [("a", 4, 3), ("b", 4, 1), ("c", 4, 2)])
        self.assertEqual(part.depth(), 2)

    def test_no_parts(self):
        part = Many([], [])
        self.assertEqual([part.called(turn) for turn in [0, 1, 2, GREAT]], [None] * 4)
        self.assertEqual(part.rows(), [])
        self.assertEqual(part.depth(), 1)

    def test_parts_that_call_nobody(self):
        part = Many([(2, 0), (4, 1), (4, 3)], [Many([], []), One("a"), Many([(1, 0)], [Many([], [])])])
        self.assertEqual([part.called(turn) for turn in range(6)], [None, "a", None, None, None, "a"])
        self.assertEqual(part.rows(), [("a", 4, 1)])
        self.assertEqual(part.depth(), 3)

    def test_turns_and_periods_of_a_hundred_figures(self):
        inner = Many([(GREAT, 5), (GREAT, GREAT - 1)], [One("a"), One("b")])
        part = Many([(GREAT, 1), (GREAT, 0)], [One("c"), inner])
        rows = part.rows()
        far = GREAT * GREAT
        self.assertEqual(rows, [("c", GREAT, 1), ("a", far, 5 * GREAT), ("b", far, far - GREAT)])
        self.assertEqual(part.called(1), "c")
        self.assertEqual(part.called(GREAT + 1), "c")
        self.assertIsNone(part.called(0))
        self.assertIsNone(part.called(GREAT))
        self.assertEqual(part.called(5 * GREAT), "a")
        for name, period, first in rows:
            for times in [0, 1, 10 ** 99]:
                self.assertEqual(part.called(first + times * period), name)
                self.assertNotEqual(part.called(first + times * period + 1), name)

    def test_far_turns_are_like_near_ones(self):
        for nest in SMALL_NESTS[:-1]:
            part = made(nest)
            for turn in range(72):
                self.assertEqual(part.called(72 * 10 ** 97 + turn), part.called(turn))

    def test_eight_deep_with_far_periods(self):
        part = One("a")
        for level in range(8):
            part = Many([(2, 0), (GREAT - 1, GREAT - 2 - 2 * level)], [One(f"other {level}"), part])
        name, period, first = part.rows()[-1]
        self.assertEqual((name, period), ("a", (GREAT - 1) ** 8))
        self.assertEqual(part.called(first), "a")
        self.assertEqual(part.called(first + 10 ** 50 * period), "a")
        self.assertNotEqual(part.called(first + period - 1), "a")

    def test_three_hundred_parts(self):
        names = [f"listener {number}" for number in range(299)]
        wheel = [(299, (5 * number) % 299) for number in range(299)]
        part = Many(wheel, [One(name) for name in names])
        self.assertEqual(part.rows(), [(name, period, first) for name, (period, first) in zip(names, wheel)])
        self.assertEqual(part.called(299 * 10 ** 90 + 5), names[1])

    def test_the_same_empty_part_at_two_places(self):
        empty = Many([], [])
        part = Many([(2, 0), (2, 1)], [empty, empty])
        self.assertEqual((part.rows(), part.depth(), part.called(3)), ([], 2, None))


class RefusedParts(unittest.TestCase):
    def test_too_few_and_too_many_parts(self):
        wheel = [(3, 0), (3, 1), (3, 2)]
        for size in [0, 1, 2, 4, 300]:
            with self.subTest(size=size):
                with self.assertRaises(NoPart):
                    Many(wheel, [One(str(number)) for number in range(size)])
        with self.assertRaises(NoPart):
            Many([], [One("a")])
        with self.assertRaises(NoPart):
            Many([(1, 0)], [])
        with self.assertRaises(NoPart):
            Many(wheel, [Many([], []), Many([], [])])

    def test_a_name_that_is_there_twice(self):
        pair = [(2, 0), (2, 1)]
        with self.assertRaises(NoPart):
            Many(pair, [One("a"), One("a")])
        with self.assertRaises(NoPart):
            Many(pair, [One(""), One("")])
        with self.assertRaises(NoPart):
            Many(pair, [One("a"), Many(pair, [One("b"), One("a")])])
        with self.assertRaises(NoPart):
            Many(pair, [Many(pair, [One("b"), One("a")]), One("a")])
        for one, other in itertools.product(range(8), repeat=2):
            with self.subTest(one=one, other=other):
                with self.assertRaises(NoPart):
                    Many(pair, [alone(one), alone(other)])
                self.assertEqual(Many(pair, [alone(one), alone(other, "b")]).depth(), 1 + max(one, other))

    def test_the_same_part_twice(self):
        part = One("a")
        with self.assertRaises(NoPart):
            Many([(2, 0), (2, 1)], [part, part])

    def test_names_that_are_nearly_the_same(self):
        part = Many([(4, 0), (4, 1), (4, 2), (4, 3)], [One("a"), One("A"), One("a "), One("")])
        self.assertEqual([part.called(turn) for turn in range(4)], ["a", "A", "a ", ""])

    def test_the_last_two_of_three_hundred_have_one_name(self):
        wheel = [(299, number) for number in range(299)]
        names = [str(number) for number in range(298)]
        with self.assertRaises(NoPart):
            Many(wheel, [One(name) for name in names + ["297"]])

    def test_a_depth_above_eight(self):
        self.assertEqual(alone(8).depth(), 8)
        with self.assertRaises(NoPart):
            alone(9)
        with self.assertRaises(NoPart):
            Many([(2, 0), (2, 1)], [One("b"), alone(8)])
        empty = Many([], [])
        for level in range(7):
            empty = Many([(1, 0)], [empty])
        self.assertEqual(empty.depth(), 8)
        with self.assertRaises(NoPart):
            Many([(1, 0)], [empty])

    def test_a_refusal_changes_nothing(self):
        wheel = [(2, 0), (2, 1)]
        part = alone(8)
        parts = [One("b"), part]
        with self.assertRaises(NoPart):
            Many(wheel, parts)
        self.assertEqual(wheel, [(2, 0), (2, 1)])
        self.assertEqual(len(parts), 2)
        self.assertIs(parts[1], part)
        self.assertEqual((part.rows(), part.depth(), part.called(7)), ([("a", 1, 0)], 8, "a"))


class WhatIsHandedIn(unittest.TestCase):
    def test_handed_lists_stay_as_they_were_and_are_not_kept(self):
        wheel = [(2, 1), (4, 0)]
        inner_wheel = [(2, 0), (2, 1)]
        inner_parts = [One("a"), One("b")]
        parts = [Many(inner_wheel, inner_parts), One("c")]
        first = parts[0]
        part = Many(wheel, parts)
        self.assertEqual((wheel, inner_wheel), ([(2, 1), (4, 0)], [(2, 0), (2, 1)]))
        self.assertEqual(len(parts), 2)
        self.assertIs(parts[0], first)
        before = self.told(part)
        wheel[0] = (3, 2)
        inner_wheel.reverse()
        inner_parts[0] = One("other")
        parts.reverse()
        self.assertEqual(self.told(part), before)
        for handed in (wheel, inner_wheel, inner_parts, parts):
            handed.clear()
        self.assertEqual(self.told(part), before)

    def told(self, part):
        return (part.rows(), part.depth(), [part.called(turn) for turn in range(12)])

    def test_told_rows_are_the_askers_own(self):
        part = Many([(2, 1), (4, 0)], [Many([(2, 0), (2, 1)], [One("a"), One("b")]), One("c")])
        before = self.told(part)
        rows = part.rows()
        rows.reverse()
        rows.append(("d", 1, 0))
        self.assertEqual(self.told(part), before)
        part.rows().clear()
        self.assertEqual(self.told(part), before)

    def test_a_part_within_another_one_tells_what_it_told(self):
        inner = Many([(2, 0), (2, 1)], [One("a"), One("b")])
        before = self.told(inner)
        Many([(3, 1)], [inner]).called(7)
        Many([(5, 1), (5, 2)], [One("c"), inner]).rows()
        self.assertEqual(self.told(inner), before)


def plain_group_waits(groups):
    """The periods, told plainly, that the groups and their members get, or None."""
    outer = wheel_for([wait for wait, members in groups])
    if outer is None:
        return None
    told = []
    for (wait, members), (period, first) in zip(groups, outer[1]):
        own = [member // period for name, member in members]
        inner = None if min(own) < 1 else wheel_for(own)
        if inner is None:
            return None
        told += [(name, period * row[0]) for (name, member), row in zip(members, inner[1])]
    return told


class Grouped(unittest.TestCase):
    def keeps(self, groups):
        """Sees that each name is called at least once in any turns as many as its wait."""
        part = grouped(groups)
        rows = part.rows()
        waits = {name: wait for group in groups for name, wait in group[1]}
        self.assertEqual([row[0] for row in rows], list(waits))
        self.assertEqual([row[:2] for row in rows], plain_group_waits(groups))
        self.assertEqual(part.depth(), 2)
        self.assertEqual(len(wheel_of([row[1:] for row in rows])), len(rows))
        for name, period, first in rows:
            self.assertLessEqual(period, waits[name])
            self.assertEqual(part.called(first), name)
            self.assertEqual(part.called(first + 10 ** 60 * period), name)
        return part

    def test_each_name_is_called_in_any_turns_as_many_as_its_wait(self):
        for groups in [
            [(1, [("a", 1)])],
            [(1, [("a", 2), ("b", 2)])],
            [(2, [("a", 4), ("b", 5)]), (3, [("c", 3)])],
            [(3, [("a", 7), ("b", 9)]), (3, [("c", 3)]), (5, [("d", 11), ("e", 12), ("f", 40)])],
        ]:
            part = self.keeps(groups)
            calls = [part.called(turn) for turn in range(400)]
            for name, wait in [member for group in groups for member in group[1]]:
                with self.subTest(groups=groups, name=name):
                    for begin in range(400 - wait):
                        self.assertIn(name, calls[begin:begin + wait])

    def test_chosen_groups(self):
        chance = random.Random(26)
        seen = {None: 0, "kept": 0}
        for number in range(600):
            groups = []
            for group in range(chance.randrange(1, 5)):
                size = chance.randrange(1, 5)
                members = [(f"{group} {member}", chance.randrange(1, 60)) for member in range(size)]
                groups.append((chance.randrange(1, 9), members))
            if plain_group_waits(groups) is None:
                self.assertIsNone(grouped(groups))
                seen[None] += 1
            else:
                self.keeps(groups)
                seen["kept"] += 1
        self.assertGreater(min(seen.values()), 60)

    def test_none_where_the_wheel_of_the_groups_is_not_there(self):
        self.assertIsNone(grouped([(1, [("a", 50)]), (1, [("b", 50)])]))
        self.assertIsNone(grouped([(2, [("a", 50)]), (3, [("b", 50)]), (3, [("c", 50)])]))

    def test_none_where_the_wheel_of_some_members_is_not_there(self):
        self.assertIsNone(grouped([(1, [("a", 1), ("b", 1)])]))
        self.assertIsNone(grouped([(2, [("a", 9)]), (2, [("b", 3), ("c", 3)])]))
        self.assertIsNone(grouped([(2, [("b", 5), ("c", 7), ("d", 7)]), (2, [("a", 9)])]))

    def test_none_where_a_members_wait_is_less_than_its_groups_period(self):
        self.assertIsNone(grouped([(2, [("a", 1)])]))
        self.assertIsNone(grouped([(3, [("a", 90), ("b", 2), ("c", 90)])]))
        self.assertIsNone(grouped([(2, [("a", 9)]), (4, [("b", 3)])]))
        self.keeps([(2, [("a", 2)])])
        self.keeps([(7, [("a", 5)]), (4, [("b", 9)])])

    def test_waits_of_a_hundred_figures(self):
        self.keeps([(GREAT, [("a", GREAT)])])
        self.assertIsNone(grouped([(2, [("a", GREAT), ("b", GREAT - 1)]), (10 ** 50, [("c", GREAT), ("d", 10 ** 50)])]))
        self.keeps([(2, [("a", GREAT), ("b", GREAT - 1)]), (10 ** 50, [("c", GREAT), ("d", 10 ** 80)])])
        self.assertIsNone(grouped([(GREAT, [("a", GREAT - 1)])]))

    def test_three_hundred_members(self):
        self.keeps([(1, [(str(number), 300) for number in range(300)])])
        self.keeps([(300, [(str(number), 300)]) for number in range(300)])
        self.keeps([(20, [(f"{group} {member}", 300) for member in range(15)]) for group in range(20)])
        self.assertIsNone(grouped([(1, [(str(number), 299) for number in range(300)])]))

    def test_empty_ones_and_waits_below_1(self):
        good = (4, [("z", 9)])
        for wrong in [
            (4, []), (0, [("a", 9)]), (-1, [("a", 9)]), (-GREAT, [("a", 9)]), (4, [("a", 0)]),
            (4, [("a", 9), ("b", -1)]), (4, [("a", -GREAT), ("b", 9)]), (0, []),
        ]:
            for groups in [[wrong], [wrong, good], [good, wrong], [good, wrong, (4, [("y", 9)])]]:
                with self.subTest(groups=groups):
                    with self.assertRaises(NoWheel):
                        grouped(groups)
        with self.assertRaises(NoWheel):
            grouped([])

    def test_a_name_that_is_there_twice(self):
        for groups in [
            [(4, [("a", 9), ("a", 9)])],
            [(4, [("a", 9)]), (4, [("a", 9)])],
            [(4, [("a", 9), ("b", 9)]), (4, [("c", 9)]), (4, [("d", 9), ("b", 9)])],
        ]:
            with self.subTest(groups=groups):
                with self.assertRaises(NoPart):
                    grouped(groups)

    def test_no_wheel_goes_ahead_of_no_part(self):
        for groups in [
            [(4, [("a", 9), ("a", 9)]), (4, [])],
            [(4, [("a", 9), ("a", 9)]), (0, [("b", 9)])],
            [(4, [("a", 9), ("a", 9)]), (4, [("b", 0)])],
            [(4, [("a", 9), ("a", 0)])],
            [(0, [("a", 9), ("a", 9)])],
        ]:
            with self.subTest(groups=groups):
                with self.assertRaises(NoWheel):
                    grouped(groups)

    def test_refusals_go_ahead_of_none(self):
        full = [(1, [("a", 9)]), (1, [("b", 9)])]
        self.assertIsNone(grouped(full))
        with self.assertRaises(NoPart):
            grouped(full + [(4, [("a", 9)])])
        with self.assertRaises(NoWheel):
            grouped(full + [(4, [])])
        with self.assertRaises(NoPart):
            grouped([(3, [("a", 2), ("a", 2)])])
        with self.assertRaises(NoWheel):
            grouped([(3, [("a", 2), ("b", 0)])])
        with self.assertRaises(NoPart):
            grouped([(1, [("a", 1), ("b", 1), ("a", 1)])])

    def test_what_is_handed_in_stays_as_it_was_and_is_not_kept(self):
        members = [("a", 9), ("b", 12)]
        groups = [(4, members), (2, [("c", 5)])]
        part = grouped(groups)
        self.assertEqual(groups, [(4, [("a", 9), ("b", 12)]), (2, [("c", 5)])])
        before = (part.rows(), [part.called(turn) for turn in range(40)])
        members[0] = ("x", 1)
        members.append(("y", 1))
        groups.clear()
        self.assertEqual((part.rows(), [part.called(turn) for turn in range(40)]), before)

    def test_a_refusal_or_none_changes_nothing(self):
        for groups in [[(4, [("a", 9), ("a", 9)])], [(4, [("a", 9)]), (4, [])], [(3, [("a", 2)])]]:
            was = [(wait, list(members)) for wait, members in groups]
            try:
                self.assertIsNone(grouped(groups))
            except (NoPart, NoWheel):
                pass
            self.assertEqual(groups, was)


if __name__ == "__main__":
    unittest.main()
