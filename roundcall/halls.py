"""Halls, their standings, and what a turn makes of a standing.

A hall is a tuple (waits, calm), a standing of it a tuple (left, quiet).
"""

from roundcall.errors import NoHall, NoListener, NoLoss, TooMany

MOST_LISTENERS = 8
MOST_STANDINGS = 3000


def hall_of(waits, calm=None):
    if len(waits) < 1 or len(waits) > MOST_LISTENERS:
        raise NoHall("a hall has one to eight listeners")
    if min(waits) < 1:
        raise NoHall("a wait is below 1")
    if calm is not None and calm < 1:
        raise NoHall("calm is below 1")
    return (tuple(waits), calm)


def beginning(hall):
    return (hall[0], 0)


def may_lose(hall, standing):
    return hall[1] is not None and standing[1] == 0


def is_listener(hall, who):
    # Asked by hand, since an index of -1 would quietly mean the last listener.
    return who >= 0 and who < len(hall[0])


def refuse_wrong_turn(hall, standing, who, lost):
    if not is_listener(hall, who):
        raise NoListener("no listener has this number")
    if lost and not may_lose(hall, standing):
        raise NoLoss("the road may lose nothing here")


def left_behind(hall, standing, who, lost):
    refuse_wrong_turn(hall, standing, who, lost)
    left = [turns - 1 for turns in standing[0]]
    if not lost:
        left[who] = hall[0][who]
    return left


def quiet_behind(hall, standing, lost):
    if lost:
        return hall[1]
    return max(standing[1] - 1, 0)


def after(hall, standing, who, lost=False):
    left = left_behind(hall, standing, who, lost)
    if 0 in left:
        return None
    return (tuple(left), quiet_behind(hall, standing, lost))


def all_behind(hall, standing, who):
    behind = [after(hall, standing, who)]
    if may_lose(hall, standing):
        behind.append(after(hall, standing, who, True))
    return behind


def broken_ones(hall, standing, who, lost=False):
    left = left_behind(hall, standing, who, lost)
    return [number for number, turns in enumerate(left) if turns == 0]


def quiet_values(hall):
    return 1 if hall[1] is None else hall[1] + 1


def how_many(hall):
    product = quiet_values(hall)
    for wait in hall[0]:
        product = product * wait
    return product


def all_left(waits):
    # Each row is lengthened in rising order, so the rows stay sorted.
    rows = [()]
    for wait in waits:
        longer = []
        for row in rows:
            longer.extend([row + (turns,) for turns in range(1, wait + 1)])
        rows = longer
    return rows


def standings(hall):
    # Counted ahead of the listing: the numbers may be far too great to list.
    if how_many(hall) > MOST_STANDINGS:
        raise TooMany("the hall has more than three thousand standings")
    told = []
    for left in all_left(hall[0]):
        told.extend([(left, quiet) for quiet in range(quiet_values(hall))])
    return told
