"""Points 2, 3, 4, 33, 34 and 35 and the interface of roundcall.desk."""

import functools
import inspect
import itertools
import random
import re
import unittest

from roundcall import errors
from roundcall.chains import wheel_for
from roundcall.desk import Desk
from roundcall.errors import NoHall, NoListener, NoLoss, NoRow, NoStand, NoWheel, TooMany, Unsafe
from roundcall.wheels import heard, wheel_of
from tests.plain import (
    GREAT, plain_best, plain_best_base, plain_doublings, plain_ranks, plain_worst, small_halls, turn,
    what_the_road_can_do,
)

known_ranks = functools.lru_cache(maxsize=None)(plain_ranks)

NUMBER = "(?:0|[1-9][0-9]{0,99})"
FORMS = [
    f"hall(?: {NUMBER})+(?: calm {NUMBER})?", f"(?:call|lost|answer|join|leave|turn) {NUMBER}", "best|rank",
    f"wheel(?: {NUMBER})+",
]
HALL_ROWS = ["call 0", "lost 0", "answer 0", "join 3", "leave 0", "best", "rank"]

BAD_ROWS = [
    "", " ", "  ", "hall", "hall ", " hall 3", "hall 3 ", "hall  3", "hall 3  3", "hall\t3", "hall 3\n", "\nhall 3",
    "Hall 3", "HALL 3", "hall3", "halls 3", "hall +3", "hall -3", "hall 03", "hall 00", "hall 3.0", "hall 3,3",
    "hall x", "hall 3 x", "hall 1_0", "hall 0x3", "hall 1e3", "hall 3 calm", "hall 3 calm ", "hall calm 3",
    "hall calm", "hall calm 3 3", "hall 3 calm 3 3", "hall 3 calm 3 calm 3", "hall 3 calm calm 3", "hall 3 calm x",
    "hall 3 calm 03", "hall 3 calm -1", "hall 3 calm None", "hall 3 Calm 3", "hall 3 calm  3", "calm 3",
    "hall ''", "hall 3 None", "hall \u0663", "hall \u00b2", "hall \uff13", "hall\u00a03", "hall 3\u20033",
    "call", "call ", "call 0 0", "call 0 ", " call 0", "call  0", "call -1", "call +0", "call 00", "call 01", "call x",
    "call 0 calm 1", "call\n0", "Call 0", "calls 0",
    "lost", "lost 0 0", "lost -1", "lost 00", "lost x", "lost 0 calm 1",
    "answer", "answer 0 0", "answer -1", "answer 00", "answer x", "answers 0",
    "join", "join 3 3", "join -3", "join 03", "join x", "join 3 calm 1",
    "leave", "leave 0 0", "leave -1", "leave 00", "leave x", "leaves 0",
    "turn", "turn 0 0", "turn -1", "turn 00", "turn x", "turns 0",
    "best 0", "best ", " best", "Best", "best best", "bests", "best\n", "best calm 1",
    "rank 0", "rank ", " rank", "Rank", "ranks", "rank\t",
    "wheel", "wheel ", "wheel  3", "wheel 3 ", "wheel 03", "wheel -3", "wheel x", "wheel 3 x", "wheel 3 calm 1",
    "wheel calm 3", "wheels 3", "hall 3 3 cal 3", "0", "3 3", "quit", "kept", "hall 3;hall 3", "hall 3\nhall 3",
]
FIGURES_101 = "1" + "0" * 100
BAD_ROWS += [f"{word} {FIGURES_101}" for word in "hall call lost answer join leave turn wheel".split()]
BAD_ROWS += [f"hall 3 calm {FIGURES_101}", f"hall 3 {FIGURES_101}", f"wheel {FIGURES_101} 3", "turn " + "9" * 2900]
NO_TEXTS = [
    None, True, False, 0, 7, -1, 2.5, b"best", b"hall 3", ["hall", "3"], ["best"], ("best",), {"best": 1}, {"best"}, [],
    (), {}, object(), Desk(), Desk, len, bytearray(b"rank"),
]


def heard_of(desk, row):
    """The answer, or the class of the refusal."""
    try:
        return desk.told(row)
    except errors.RoundError as refusal:
        return type(refusal)


def hall_row(hall):
    return "hall " + " ".join(map(str, hall[0])) + ("" if hall[1] is None else f" calm {hall[1]}")


def desk_with(*rows):
    desk = Desk()
    for row in rows:
        desk.told(row)
    return desk


class PlainDesk:
    """The words of points 33 to 35 once more; a refusal is told as its class."""

    def __init__(self):
        self.hall = self.standing = self.wheel = None

    def told(self, row):
        if not isinstance(row, str) or not any(re.fullmatch(form, row) for form in FORMS):
            return NoRow
        word, *rest = row.split(" ")
        if word == "turn" and self.wheel is None:
            return NoStand
        if word not in ("hall", "wheel", "turn") and self.hall is None:
            return NoStand
        return getattr(self, "told_" + word)(*rest)

    def told_hall(self, *rest):
        calm = int(rest[-1]) if "calm" in rest else None
        waits = tuple(int(word) for word in (rest[:-2] if "calm" in rest else rest))
        if len(waits) > 8 or 0 in waits or calm == 0:
            return NoHall
        size = 1 if calm is None else calm + 1
        for wait in waits:
            size *= wait
        if size > 3000:
            return TooMany
        self.hall, self.standing = (waits, calm), (waits, 0)
        rank = known_ranks(self.hall).get(self.standing)
        return "kept" if rank is None else f"broken within {rank}"

    def told_call(self, who, lost=False):
        who = int(who)
        if who >= len(self.hall[0]):
            return NoListener
        if lost not in what_the_road_can_do(self.hall, self.standing):
            return NoLoss
        behind = turn(self.hall, self.standing, who, lost)
        if behind is not None:
            self.standing = behind
            return "left " + " ".join(map(str, behind[0])) + f" quiet {behind[1]}"
        broken = [n for n, left in enumerate(self.standing[0]) if left == 1 and (lost or n != who)]
        self.standing = (self.hall[0], 0)
        return "broken " + " ".join(map(str, broken))

    def told_lost(self, who):
        return self.told_call(who, True)

    def told_best(self):
        return str(plain_best(self.hall, known_ranks(self.hall), self.standing))

    def told_answer(self, who):
        if int(who) >= len(self.hall[0]):
            return NoListener
        return "lost" if plain_worst(self.hall, known_ranks(self.hall), self.standing, int(who)) else "reached"

    def told_rank(self):
        return str(known_ranks(self.hall).get(self.standing, "safe"))

    def told_join(self, wait):
        waits, calm = self.hall[0] + (int(wait),), self.hall[1]
        told = PlainDesk().told(hall_row((waits, calm)))
        if told in (NoHall, TooMany):
            return told
        coming = (self.standing[0] + (int(wait),), self.standing[1])
        if coming in known_ranks((waits, calm)):
            return Unsafe
        self.hall, self.standing = (waits, calm), coming
        return f"joined {len(waits) - 1}"

    def told_leave(self, who):
        who = int(who)
        if who >= len(self.hall[0]):
            return NoListener
        if len(self.hall[0]) == 1:
            return NoHall
        waits, left = list(self.hall[0]), list(self.standing[0])
        waits.pop(who)
        left.pop(who)
        self.hall, self.standing = (tuple(waits), self.hall[1]), (tuple(left), self.standing[1])
        return f"gone {who}"

    def told_wheel(self, *waits):
        waits = [int(wait) for wait in waits]
        if 0 in waits:
            return NoWheel
        base = plain_best_base(waits)
        if base is None:
            return "none"
        # The firsts are not promised, so they are drawn from the program's own wheel.
        self.wheel = wheel_for(waits)[1]
        return f"base {base}" + "".join(
            f" {period}+{first}" for period, (own, first) in zip(plain_doublings(waits, base), self.wheel)
        )

    def told_turn(self, number):
        who = heard(self.wheel, int(number))
        return "nobody" if who is None else str(who)


class Interface(unittest.TestCase):
    def test_names_and_arguments(self):
        self.assertEqual(str(inspect.signature(Desk)), "()")
        self.assertEqual(str(inspect.signature(Desk.told)), "(self, row)")

    def test_each_answer_is_a_text(self):
        desk = Desk()
        for row in ["hall 4 4 4", "best", "rank", "answer 0", "call 0", "join 4", "leave 1", "wheel 2 5", "turn 1"]:
            self.assertIs(type(desk.told(row)), str)


class RowsThatAreNone(unittest.TestCase):
    def test_at_a_new_desk(self):
        for row in BAD_ROWS + NO_TEXTS:
            with self.subTest(row=row):
                with self.assertRaises(NoRow):
                    Desk().told(row)

    def test_at_a_desk_with_a_hall_and_a_wheel(self):
        desk = desk_with("hall 4 4 calm 2", "lost 0", "wheel 2 5 5")
        for row in BAD_ROWS + NO_TEXTS:
            with self.subTest(row=row):
                with self.assertRaises(NoRow):
                    desk.told(row)
        self.assertEqual(desk.told("call 1"), "left 2 4 quiet 1")
        self.assertEqual(desk.told("turn 2"), "0")

    def test_a_refused_thing_stays_as_it_was(self):
        row = ["hall", "3"]
        with self.assertRaises(NoRow):
            Desk().told(row)
        self.assertEqual(row, ["hall", "3"])

    def test_no_row_goes_ahead_of_all_other_refusals(self):
        desk = desk_with("hall 2 2")
        for row in ["hall 0 x", "call 9 9", "lost 9 ", "join 0 0", "leave 9 x", "wheel 0 x", f"hall {FIGURES_101}"]:
            with self.subTest(row=row):
                with self.assertRaises(NoRow):
                    desk.told(row)

    def test_every_short_text_of_some_words(self):
        words = ["hall", "calm", "3", "0", "", "best", "call", "wheel", "03"]
        for size in range(5):
            for parts in itertools.product(words, repeat=size):
                row = " ".join(parts)
                if not any(re.fullmatch(form, row) for form in FORMS):
                    self.assertIs(heard_of(Desk(), row), NoRow, row)
                else:
                    self.assertIsNot(heard_of(Desk(), row), NoRow, row)


class NumbersInRows(unittest.TestCase):
    def test_one_to_a_hundred_figures(self):
        desk = desk_with("hall 3 3", "wheel 2 5 5")
        for figures in range(1, 101):
            self.assertEqual(desk.told("turn " + "8" * figures), "0")
            self.assertIs(heard_of(desk, "call " + "8" * figures), NoListener)
        for figures in [101, 102, 300, 2000]:
            self.assertIs(heard_of(desk, "turn " + "8" * figures), NoRow)
            self.assertIs(heard_of(desk, "call " + "8" * figures), NoRow)

    def test_a_hundred_figures_in_each_row(self):
        desk = desk_with("hall 3 3 calm 1", "wheel 2 5 5")
        for row, told in [
            (f"hall {GREAT}", TooMany), (f"hall 3 calm {GREAT}", TooMany), (f"hall 1 1 {GREAT} calm {GREAT}", TooMany),
            (f"call {GREAT}", NoListener), (f"lost {GREAT}", NoListener), (f"answer {GREAT}", NoListener),
            (f"leave {GREAT}", NoListener), (f"join {GREAT}", TooMany), (f"turn {GREAT}", "2"),
            (f"wheel {GREAT}", f"base {GREAT} {GREAT}+0"),
        ]:
            with self.subTest(row=row):
                self.assertEqual(heard_of(desk, row), told)

    def test_0_is_a_number(self):
        desk = desk_with("hall 3 3", "wheel 2 5 5")
        for row, told in [
            ("call 0", "left 3 2 quiet 0"), ("answer 0", "reached"), ("turn 0", "0"), ("join 0", NoHall),
            ("hall 0", NoHall), ("hall 3 0", NoHall), ("hall 3 calm 0", NoHall), ("wheel 0", NoWheel),
            ("lost 0", NoLoss), ("leave 0", "gone 0"),
        ]:
            with self.subTest(row=row):
                self.assertEqual(heard_of(desk, row), told)


class WhatIsNotThere(unittest.TestCase):
    def test_rows_that_need_a_hall(self):
        for desk in [Desk(), desk_with("wheel 2 5 5")]:
            for row in HALL_ROWS + [f"{word} 99" for word in ["call", "lost", "answer", "join", "leave"]] + ["join 0"]:
                with self.subTest(row=row):
                    with self.assertRaises(NoStand):
                        desk.told(row)

    def test_rows_that_need_a_wheel(self):
        for desk in [Desk(), desk_with("hall 3 3")]:
            for row in ["turn 0", "turn 7", f"turn {GREAT}"]:
                with self.assertRaises(NoStand):
                    desk.told(row)

    def test_rows_that_need_nothing(self):
        self.assertEqual(Desk().told("hall 3 3"), "kept")
        self.assertEqual(Desk().told("wheel 2"), "base 2 2+0")

    def test_what_was_refused_is_not_there(self):
        desk = Desk()
        for row, refusal in [("hall 0", NoHall), ("hall 3001", TooMany), ("wheel 0", NoWheel), ("hall x", NoRow)]:
            self.assertIs(heard_of(desk, row), refusal)
        self.assertEqual(desk.told("wheel 1 1"), "none")
        for row in HALL_ROWS + ["turn 0"]:
            self.assertIs(heard_of(desk, row), NoStand)


class Halls(unittest.TestCase):
    def test_kept_or_broken_within(self):
        for row, told in [
            ("hall 1", "kept"), ("hall 2 2", "kept"), ("hall 3 3 3", "kept"), ("hall 2 calm 1", "kept"),
            ("hall 1 1", "broken within 1"), ("hall 1 2", "broken within 2"), ("hall 1 calm 1", "broken within 1"),
            ("hall 2 2 calm 1", "broken within 2"), ("hall 1 3000", "broken within 3000"),
            ("hall 1 1 1 1 1 1 1 1", "broken within 1"), ("hall 8 8", "kept"), ("hall 10 10 5 calm 5", "kept"),
        ]:
            with self.subTest(row=row):
                self.assertEqual(Desk().told(row), told)

    def test_small_halls_against_the_words_of_the_document(self):
        desk = Desk()
        for hall in small_halls():
            rank = known_ranks(hall).get((hall[0], 0))
            self.assertEqual(desk.told(hall_row(hall)), "kept" if rank is None else f"broken within {rank}")

    def test_refused(self):
        desk = Desk()
        for row in ["hall 0", "hall 3 0 3", "hall 3 calm 0", "hall 1 1 1 1 1 1 1 1 1", "hall" + " 9" * 300]:
            self.assertIs(heard_of(desk, row), NoHall)
        for row in ["hall 3001", "hall 1501 calm 1", "hall 1 calm 3000", "hall 3 3 3 3 3 3 3 3", "hall 10 10 5 calm 6"]:
            self.assertIs(heard_of(desk, row), TooMany)

    def test_no_hall_goes_ahead_of_too_many(self):
        for row in ["hall 9999 0", "hall 9999 calm 0", "hall 9999 1 1 1 1 1 1 1 1", f"hall {GREAT} {GREAT} calm 0"]:
            self.assertIs(heard_of(Desk(), row), NoHall)

    def test_in_its_beginning_in_the_place_of_the_one_before(self):
        desk = desk_with("hall 5 5 calm 3", "lost 1")
        self.assertEqual(desk.told("hall 4 3 9"), "kept")
        self.assertEqual(desk.told("call 2"), "left 3 2 9 quiet 0")
        self.assertEqual(desk.told("hall 4 3 9"), "kept")
        self.assertEqual(desk.told("call 0"), "left 4 2 8 quiet 0")
        self.assertEqual(desk.told("hall 1 2"), "broken within 2")
        self.assertEqual([desk.told("rank"), heard_of(desk, "call 2")], ["2", NoListener])

    def test_a_refused_hall_leaves_the_one_before(self):
        desk = desk_with("hall 5 5 calm 3", "lost 1")
        for row in ["hall 0", "hall 3001", "hall 3 calm 0", "hall x", "hall 1 1 1 1 1 1 1 1 1"]:
            with self.assertRaises(errors.RoundError):
                desk.told(row)
        self.assertEqual(desk.told("call 1"), "left 3 5 quiet 2")
        self.assertEqual(desk.told("rank"), "safe")

    def test_calm_is_none_without_it(self):
        desk = desk_with("hall 5 5 calm 1", "hall 5 5")
        self.assertIs(heard_of(desk, "lost 0"), NoLoss)


class Turns(unittest.TestCase):
    def test_call_and_lost(self):
        desk = desk_with("hall 5 4 calm 2")
        for row, told in [
            ("call 0", "left 5 3 quiet 0"), ("call 1", "left 4 4 quiet 0"), ("lost 0", "left 3 3 quiet 2"),
            ("call 1", "left 2 4 quiet 1"), ("call 0", "left 5 3 quiet 0"), ("lost 1", "left 4 2 quiet 2"),
        ]:
            self.assertEqual(desk.told(row), told)

    def test_quiet_is_told_also_where_calm_is_none(self):
        desk = desk_with("hall 3 2")
        self.assertEqual(desk.told("call 1"), "left 2 2 quiet 0")
        self.assertEqual(desk_with("hall 1").told("call 0"), "left 1 quiet 0")

    def test_broken_ones_and_the_beginning_behind_it(self):
        desk = desk_with("hall 2 2 2 9")
        self.assertEqual(desk.told("call 1"), "left 1 2 1 8 quiet 0")
        self.assertEqual(desk.told("call 3"), "broken 0 2")
        self.assertEqual(desk.told("call 3"), "left 1 1 1 9 quiet 0")
        self.assertEqual(desk.told("call 3"), "broken 0 1 2")
        self.assertEqual(desk.told("rank"), desk_with("hall 2 2 2 9").told("rank"))

    def test_broken_by_a_lost_call(self):
        desk = desk_with("hall 1 3 calm 2")
        self.assertEqual(desk.told("lost 0"), "broken 0")
        self.assertEqual(desk.told("lost 1"), "broken 0")
        desk.told("hall 3 3 calm 2")
        for row, told in [
            ("lost 0", "left 2 2 quiet 2"), ("call 0", "left 3 1 quiet 1"), ("call 0", "broken 1"),
            ("lost 1", "left 2 2 quiet 2"), ("call 1", "left 1 3 quiet 1"), ("call 0", "left 3 2 quiet 0"),
            ("call 0", "left 3 1 quiet 0"), ("lost 1", "broken 1"), ("call 0", "left 3 2 quiet 0"),
        ]:
            self.assertEqual(desk.told(row), told)

    def test_refused_and_nothing_changed(self):
        desk = desk_with("hall 5 5 calm 2")
        for who in [2, 3, 99, GREAT]:
            self.assertIs(heard_of(desk, f"call {who}"), NoListener)
            self.assertIs(heard_of(desk, f"lost {who}"), NoListener)
        self.assertEqual(desk.told("lost 1"), "left 4 4 quiet 2")
        self.assertIs(heard_of(desk, "lost 1"), NoLoss)
        self.assertIs(heard_of(desk, "lost 2"), NoListener)
        self.assertEqual(desk.told("call 1"), "left 3 5 quiet 1")
        self.assertIs(heard_of(desk, "lost 0"), NoLoss)
        self.assertEqual(desk.told("call 0"), "left 5 4 quiet 0")
        self.assertEqual(desk.told("lost 0"), "left 4 3 quiet 2")

    def test_a_refused_turn_where_somebody_would_be_broken(self):
        desk = desk_with("hall 2 9", "call 1")
        self.assertIs(heard_of(desk, "call 2"), NoListener)
        self.assertIs(heard_of(desk, "lost 1"), NoLoss)
        self.assertEqual(desk.told("call 1"), "broken 0")


class Advice(unittest.TestCase):
    def test_written_out(self):
        desk = desk_with("hall 2 2 calm 1")
        told = [desk.told(row) for row in ["best", "rank", "answer 0", "answer 1"]]
        self.assertEqual(told, ["0", "2", "reached", "reached"])
        self.assertEqual(desk.told("call 0"), "left 2 1 quiet 0")
        self.assertEqual([desk.told(row) for row in ["rank", "answer 0", "answer 1"]], ["1", "reached", "lost"])
        self.assertEqual(desk_with("hall 3 3", "call 0").told("rank"), "safe")
        self.assertEqual(desk_with("hall 4 4", "call 0", "call 0", "call 0").told("best"), "1")

    def test_at_all_standings_that_calls_lead_to(self):
        for hall in [((3, 3), 2), ((4, 3), None), ((2, 3, 4), 2), ((6, 6), 7), ((2, 2, 2), 1)]:
            table = known_ranks(hall)
            row = hall_row(hall)
            for trial in range(20):
                chance = random.Random(trial)
                desk, here = desk_with(row), (hall[0], 0)
                for number in range(12):
                    self.assertEqual(desk.told("best"), str(plain_best(hall, table, here)))
                    self.assertEqual(desk.told("rank"), str(table.get(here, "safe")))
                    for who in range(len(hall[0])):
                        told = "lost" if plain_worst(hall, table, here, who) else "reached"
                        self.assertEqual(desk.told(f"answer {who}"), told)
                    who, lost = chance.randrange(len(hall[0])), chance.choice(what_the_road_can_do(hall, here))
                    desk.told(f"lost {who}" if lost else f"call {who}")
                    here = turn(hall, here, who, lost) or (hall[0], 0)

    def test_they_change_nothing(self):
        desk = desk_with("hall 4 3 5 calm 2", "lost 1")
        for row in ["best", "rank", "answer 0", "answer 2", "best", "rank"]:
            desk.told(row)
        self.assertEqual(desk.told("call 1"), "left 2 3 3 quiet 1")

    def test_answer_is_refused_where_there_is_no_such_listener(self):
        desk = desk_with("hall 3 3 calm 2")
        for row in ["answer 2", "answer 3", f"answer {GREAT}"]:
            self.assertIs(heard_of(desk, row), NoListener)

    def test_calling_the_best_from_a_kept_beginning_breaks_nobody(self):
        kept = [hall for hall in small_halls() if (hall[0], 0) not in known_ranks(hall)]
        self.assertGreater(len(kept), 20)
        for hall in kept:
            row = hall_row(hall)
            for part in [0, 0.3, 1]:
                chance = random.Random(7)
                desk = Desk()
                self.assertEqual(desk.told(row), "kept")
                quiet = 0
                for number in range(40):
                    lost = hall[1] is not None and quiet == 0 and chance.random() < part
                    told = desk.told(("lost " if lost else "call ") + desk.told("best"))
                    self.assertTrue(told.startswith("left "), (hall, told))
                    quiet = int(told.split(" ")[-1])
                    self.assertEqual(desk.told("rank"), "safe")

    def test_answers_from_a_broken_beginning_break_somebody_within_the_told_turns(self):
        broken = [hall for hall in small_halls() if (hall[0], 0) in known_ranks(hall)]
        self.assertGreater(len(broken), 20)
        for hall in broken:
            row = hall_row(hall)
            for trial in range(6):
                chance = random.Random(trial)
                desk = Desk()
                within = int(desk.told(row).split(" ")[-1])
                turns, told = 0, ""
                while turns < within and not told.startswith("broken"):
                    # The first trial calls the best, and is broken in the last one of these turns.
                    who = desk.told("best") if trial == 0 else str(chance.randrange(len(hall[0])))
                    word = {"lost": "lost", "reached": "call"}[desk.told(f"answer {who}")]
                    told = desk.told(f"{word} {who}")
                    turns += 1
                self.assertTrue(told.startswith("broken "), (hall, told))
                if trial == 0:
                    self.assertEqual(turns, within)


class ComingAndGoing(unittest.TestCase):
    def test_join(self):
        desk = desk_with("hall 4 4", "call 0")
        self.assertEqual(desk.told("join 4"), "joined 2")
        self.assertEqual(desk.told("call 2"), "left 3 2 4 quiet 0")
        self.assertEqual(desk.told("join 9"), "joined 3")
        self.assertEqual(desk.told("call 1"), "left 2 4 3 8 quiet 0")
        self.assertEqual([desk.told("rank"), desk.told("best")], ["safe", "0"])

    def test_join_where_the_road_may_lose_and_is_quiet(self):
        desk = desk_with("hall 6 calm 7", "lost 0")
        self.assertEqual(desk.told("join 6"), "joined 1")
        self.assertEqual(desk.told("call 0"), "left 6 5 quiet 6")
        self.assertIs(heard_of(desk, "lost 1"), NoLoss)

    def test_where_it_may_not_it_is_refused_with_unsafe(self):
        self.assertEqual(desk_with("hall 3 6 6").told("join 3"), "joined 3")
        desk = desk_with("hall 3 6 6", "call 1", "call 0", "call 0")
        self.assertEqual([desk.told("call 0"), desk.told("rank")], ["left 3 3 2 quiet 0", "safe"])
        for row in ["join 3", "join 1", "join 3"]:
            self.assertIs(heard_of(desk, row), Unsafe)
        self.assertEqual(desk.told("call 2"), "left 2 2 6 quiet 0")
        self.assertEqual([desk.told("call 1"), desk.told("join 3")], ["left 1 6 5 quiet 0", "joined 3"])
        full = desk_with("hall 2 2")
        for wait in [1, 2, 9, 750]:
            self.assertIs(heard_of(full, f"join {wait}"), Unsafe)
        self.assertIs(heard_of(full, "join 751"), TooMany)
        self.assertIs(heard_of(desk_with("hall 1 2"), "join 5"), Unsafe)

    def test_join_refused_with_no_hall_then_too_many_then_unsafe(self):
        self.assertIs(heard_of(desk_with("hall 1 1"), "join 0"), NoHall)
        self.assertIs(heard_of(desk_with("hall 3000"), "join 0"), NoHall)
        self.assertIs(heard_of(desk_with("hall 1 1 1 1 1 1 1 1"), "join 1"), NoHall)
        self.assertIs(heard_of(desk_with("hall 2 2 2 2 2 2 2 2"), f"join {GREAT}"), NoHall)
        self.assertIs(heard_of(desk_with("hall 1 1"), "join 3001"), TooMany)
        self.assertIs(heard_of(desk_with("hall 1 1"), "join 3000"), Unsafe)
        self.assertIs(heard_of(desk_with("hall 1500 calm 1"), "join 2"), TooMany)

    def test_a_refused_join_changes_nothing(self):
        desk = desk_with("hall 3 3 calm 5", "lost 0")
        for row in ["join 0", "join 3000", "join 1"]:
            with self.assertRaises(errors.RoundError):
                desk.told(row)
        self.assertEqual(desk.told("rank"), str(known_ranks(((3, 3), 5)).get(((2, 2), 5), "safe")))
        self.assertEqual(desk.told("call 1"), "left 1 3 quiet 4")
        self.assertIs(heard_of(desk, "call 2"), NoListener)

    def test_leave(self):
        desk = desk_with("hall 4 5 6", "call 0", "call 2")
        self.assertEqual(desk.told("leave 1"), "gone 1")
        self.assertEqual(desk.told("call 0"), "left 4 5 quiet 0")
        self.assertIs(heard_of(desk, "call 2"), NoListener)
        self.assertEqual(desk.told("leave 0"), "gone 0")
        self.assertEqual(desk.told("call 0"), "left 6 quiet 0")

    def test_leave_with_a_road_that_may_lose(self):
        desk = desk_with("hall 4 5 6 calm 3", "lost 0", "call 1")
        self.assertEqual(desk.told("leave 0"), "gone 0")
        self.assertEqual(desk.told("call 1"), "left 4 6 quiet 1")

    def test_leave_refused_with_no_listener_then_no_hall(self):
        desk = desk_with("hall 3 4", "call 0")
        for row in ["leave 2", "leave 9", f"leave {GREAT}"]:
            self.assertIs(heard_of(desk, row), NoListener)
        self.assertEqual(desk.told("leave 0"), "gone 0")
        self.assertIs(heard_of(desk, "leave 1"), NoListener)
        self.assertIs(heard_of(desk, "leave 0"), NoHall)
        self.assertEqual(desk.told("call 0"), "left 4 quiet 0")

    def test_behind_both_the_advice_is_that_of_the_hall_that_came(self):
        desk = desk_with("hall 1 2")
        self.assertEqual(desk.told("rank"), "2")
        self.assertEqual([desk.told("leave 0"), desk.told("rank"), desk.told("best")], ["gone 0", "safe", "0"])
        self.assertEqual([desk.told("join 4"), desk.told("join 4")], ["joined 1", "joined 2"])
        self.assertEqual(desk.told("call 1"), "left 1 4 3 quiet 0")
        self.assertEqual([desk.told("best"), desk.told("rank")], ["0", "safe"])
        self.assertIs(heard_of(desk, "join 9"), Unsafe)

    def test_the_beginning_behind_a_break_is_that_of_the_hall_that_came(self):
        desk = desk_with("hall 2 3", "call 0", "leave 1", "join 2")
        self.assertEqual(desk.told("call 0"), "left 2 1 quiet 0")
        self.assertEqual(desk.told("call 0"), "broken 1")
        self.assertEqual(desk.told("call 1"), "left 1 2 quiet 0")

    def test_up_to_eight_and_down_to_one(self):
        desk = desk_with("hall 1 1 1 1 1 1 1 1")
        self.assertEqual([desk.told("leave 3") for number in range(5)], ["gone 3"] * 5)
        self.assertEqual([desk.told("leave 0"), desk.told("leave 0")], ["gone 0", "gone 0"])
        self.assertIs(heard_of(desk, "leave 0"), NoHall)


class Wheels(unittest.TestCase):
    def told_wheel(self, text):
        words = text.split(" ")
        self.assertEqual(words[0], "base")
        return int(words[1]), [tuple(int(part) for part in word.split("+")) for word in words[2:]]

    def test_written_out(self):
        self.assertEqual(Desk().told("wheel 1"), "base 1 1+0")
        self.assertEqual(Desk().told("wheel 7"), "base 7 7+0")
        self.assertIn(Desk().told("wheel 2 2"), ["base 2 2+0 2+1", "base 2 2+1 2+0"])
        self.assertIs(type(Desk().told("wheel 2 5 5")), str)

    def test_against_the_words_of_the_document(self):
        sorts = {True: 0, False: 0}
        for size in [1, 2, 3, 4]:
            for waits in itertools.product([1, 2, 3, 5, 8, 13], repeat=size):
                told = Desk().told("wheel " + " ".join(map(str, waits)))
                base = plain_best_base(waits)
                sorts[base is None] += 1
                if base is None:
                    self.assertEqual(told, "none")
                else:
                    own, wheel = self.told_wheel(told)
                    self.assertEqual(own, base)
                    self.assertEqual([period for period, first in wheel], plain_doublings(waits, base))
                    self.assertEqual(wheel_of(wheel), wheel)
        self.assertGreater(min(sorts.values()), 20)

    def test_it_is_the_wheel_for_these_waits(self):
        for waits in [[2, 5, 5], [4, 7, 7, 7, 7], [GREAT, GREAT - 1, 5], [10] * 10, [299] * 150]:
            base, wheel = wheel_for(waits)
            told = Desk().told("wheel " + " ".join(map(str, waits)))
            self.assertEqual(told, " ".join([f"base {base}"] + [f"{period}+{first}" for period, first in wheel]))

    def test_turn(self):
        desk = Desk()
        for waits in [[3, 7, 7], [2, 5, 5], [6], [1], [4, 9, 30, 30], [GREAT, 3]]:
            base, wheel = self.told_wheel(desk.told("wheel " + " ".join(map(str, waits))))
            for number in list(range(40)) + [GREAT, GREAT - 1, GREAT - 2]:
                told = [str(who) for who, (period, first) in enumerate(wheel) if number % period == first]
                self.assertEqual(desk.told(f"turn {number}"), told[0] if told else "nobody")

    def test_each_listener_is_called_in_any_turns_as_many_as_its_wait(self):
        desk = Desk()
        for waits in [[2, 5, 5], [3, 6, 7], [4, 9, 30, 30]]:
            self.assertNotEqual(desk.told("wheel " + " ".join(map(str, waits))), "none")
            told = [desk.told(f"turn {number}") for number in range(100)]
            for who, wait in enumerate(waits):
                for number in range(101 - wait):
                    self.assertIn(str(who), told[number:number + wait])

    def test_nobody(self):
        desk = desk_with("wheel 6")
        self.assertEqual([desk.told(f"turn {number}") for number in range(7)], ["0"] + ["nobody"] * 5 + ["0"])

    def test_none_and_the_one_before_stays(self):
        desk = desk_with("wheel 6")
        for row in ["wheel 2 3 6", "wheel 1 1", "wheel 1 " + str(GREAT)]:
            self.assertEqual(desk.told(row), "none")
            self.assertEqual([desk.told("turn 6"), desk.told("turn 7")], ["0", "nobody"])

    def test_none_at_first_leaves_no_wheel(self):
        desk = Desk()
        self.assertEqual(desk.told("wheel 1 1"), "none")
        self.assertIs(heard_of(desk, "turn 0"), NoStand)

    def test_in_the_place_of_the_one_before(self):
        desk = desk_with("wheel 6", "wheel 1")
        self.assertEqual([desk.told("turn 6"), desk.told("turn 7")], ["0", "0"])

    def test_a_0_is_refused_and_the_one_before_stays(self):
        desk = desk_with("wheel 6")
        for row in ["wheel 0", "wheel 3 0", "wheel 0 3", "wheel 1 1 0", "wheel 0 0"]:
            self.assertIs(heard_of(desk, row), NoWheel)
        self.assertEqual([desk.told("turn 6"), desk.told("turn 7")], ["0", "nobody"])
        self.assertIs(heard_of(Desk(), "wheel 5 0"), NoWheel)

    def test_rows_of_three_thousand_signs(self):
        desk = Desk()
        self.assertEqual(desk.told("wheel" + " 9" * 1497), "none")
        base, wheel = self.told_wheel(desk.told("wheel " + " ".join(str(1000 + number) for number in range(595))))
        self.assertEqual((base, len(wheel)), (1000, 595))
        self.assertEqual(desk.told("turn " + str(wheel[594][1])), "594")

    def test_hall_and_wheel_do_not_touch_one_another(self):
        desk = desk_with("hall 3 3", "wheel 6", "call 0")
        self.assertEqual(desk.told("turn 6"), "0")
        desk.told("wheel 1")
        self.assertEqual(desk.told("call 0"), "left 3 1 quiet 0")
        self.assertEqual(desk.told("call 0"), "broken 1")
        desk.told("hall 2 2")
        self.assertEqual(desk.told("turn 7"), "0")


class Desks(unittest.TestCase):
    def test_two_beside_one_another(self):
        one, other = Desk(), Desk()
        self.assertEqual(one.told("hall 4 4"), "kept")
        self.assertIs(heard_of(other, "call 0"), NoStand)
        self.assertEqual(other.told("wheel 6"), "base 6 6+0")
        self.assertIs(heard_of(one, "turn 0"), NoStand)
        self.assertEqual(other.told("hall 1 2"), "broken within 2")
        self.assertEqual([one.told("call 0"), other.told("call 0")], ["left 4 3 quiet 0", "left 1 1 quiet 0"])
        self.assertEqual([one.told("rank"), other.told("rank")], ["safe", "1"])
        self.assertEqual([one.told("join 4"), other.told("leave 0")], ["joined 2", "gone 0"])
        self.assertEqual([one.told("call 1"), other.told("call 0")], ["left 3 4 3 quiet 0", "left 2 quiet 0"])

    def random_row(self, chance):
        number = chance.choice(["0", "1", "2", "3", "4", "5", "6", "9", "12", "40", "3001", str(GREAT)])
        waits = " ".join(chance.choice("1223344566") for count in range(chance.choice([1, 1, 2, 2, 2, 3, 3, 4])))
        return chance.choice([
            f"hall {waits}", f"hall {number}", "hall 3 3 calm 1", f"hall {waits[:3]} calm " + chance.choice("0123457"),
            f"call {number}", "call " + chance.choice("00112234"), "call " + chance.choice("00112234"),
            "lost " + chance.choice("00112"), "best", "rank", "answer " + chance.choice("00112"),
            "answer " + chance.choice("01"), f"join {number}", "join " + chance.choice("4568"),
            "leave " + chance.choice("000112"), f"wheel {waits}", f"wheel 6 7 {waits}", f"wheel {number} 9",
            f"turn {number}", chance.choice(BAD_ROWS),
        ])

    def test_long_rows_of_rows_against_the_words_of_the_document(self):
        seen = {}
        for trial in range(100):
            chance = random.Random(trial)
            desk, plain = Desk(), PlainDesk()
            for number in range(100):
                row = self.random_row(chance)
                if number % 3 == 0 and plain.hall is not None:
                    row = chance.choice(["call ", "lost "]) + plain.told("best")
                told = heard_of(desk, row)
                self.assertEqual(told, plain.told(row), (trial, number, row))
                first = told.split(" ")[0] if isinstance(told, str) else told
                seen[first] = seen.get(first, 0) + 1
        for sort in [
            "kept", "broken", "left", "joined", "gone", "safe", "lost", "reached", "base", "none", "nobody", "0",
            NoHall, TooMany, NoListener, NoLoss, NoRow, NoStand, NoWheel, Unsafe,
        ]:
            self.assertGreater(seen.get(sort, 0), 3, sort)


if __name__ == "__main__":
    unittest.main()
