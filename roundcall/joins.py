"""Listeners that come and go while the calls go on."""

from roundcall.errors import NoHall, NoListener, Unsafe
from roundcall.halls import after, hall_of, is_listener
from roundcall.settle import ranks


def with_newcomer(standing, wait):
    return (standing[0] + (wait,), standing[1])


def joined(hall, standing, wait):
    return (hall_of(hall[0] + (wait,), hall[1]), with_newcomer(standing, wait))


def without_place(row, place):
    return row[:place] + row[place + 1:]


def left_out(hall, standing, who):
    if not is_listener(hall, who):
        raise NoListener("no listener has this number")
    smaller = hall_of(without_place(hall[0], who), hall[1])
    return (smaller, (without_place(standing[0], who), standing[1]))


def may_join(hall, standing, wait):
    coming = joined(hall, standing, wait)
    return coming[1] not in ranks(coming[0])


def lengthen_ways(hall, unsafe, ways, ends):
    fresh = []
    for standing in ends:
        for who in range(len(hall[0])):
            behind = after(hall, standing, who)
            if behind is not None and behind not in unsafe and behind not in ways:
                ways[behind] = ways[standing] + [who]
                fresh.append(behind)
    return fresh


def way_in(hall, standing, wait):
    if hall[1] is not None:
        raise NoHall("the road may lose calls")
    larger = joined(hall, standing, wait)[0]
    # Reckoned first, since it has no fewer standings: it is refused wherever the other hall is.
    unsafe_with = ranks(larger)
    unsafe = ranks(hall)
    if standing in unsafe:
        raise Unsafe("the standing is not a safe one")
    ways = {standing: []}
    ends = [standing]
    while ends:
        for end in ends:
            if with_newcomer(end, wait) not in unsafe_with:
                return ways[end]
        ends = lengthen_ways(hall, unsafe, ways, ends)
    return None
