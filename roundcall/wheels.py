"""Wheels: who is called in a turn, however far away that turn is.

A wheel is a list of tuples (period, first), one for each listener.
"""

from roundcall.errors import NoListener, NoWheel
from roundcall.wholes import divisor


def steps_to_divisor(number, period):
    # So many steps of number, walked round a ring of period places, end at the divisor of both.
    high = period
    high_steps = 0
    low = number % period
    low_steps = 1
    while low > 0:
        times = high // low
        rest = high - times * low
        rest_steps = high_steps - times * low_steps
        high = low
        high_steps = low_steps
        low = rest
        low_steps = rest_steps
    return high_steps


def shared_turn(one, other):
    both = divisor(one[0], other[0])
    apart = other[1] - one[1]
    if apart % both != 0:
        return None
    steps = steps_to_divisor(one[0], other[0]) * (apart // both)
    return one[1] + one[0] * (steps % (other[0] // both))


def wheel_of(rows):
    for period, first in rows:
        if period < 1 or first < 0 or first >= period:
            raise NoWheel("a period is below 1, or a first is not from 0 to below its period")
    for number, row in enumerate(rows):
        for earlier in rows[:number]:
            if shared_turn(earlier, row) is not None:
                raise NoWheel("two listeners share a turn")
    return list(rows)


def heard(wheel, turn):
    for number, row in enumerate(wheel):
        if turn % row[0] == row[1]:
            return number
    return None


def row_of(wheel, who):
    # Asked by hand, since an index of -1 would quietly mean the last listener.
    if who < 0 or who >= len(wheel):
        raise NoListener("no listener of the wheel has this number")
    return wheel[who]


def next_turn(wheel, who, turn):
    row = row_of(wheel, who)
    return turn + (row[1] - turn) % row[0]


def times_ahead(row, turn):
    return (turn - row[1] + row[0] - 1) // row[0]


def called_times(wheel, who, begin, end):
    row = row_of(wheel, who)
    return times_ahead(row, end) - times_ahead(row, begin)
