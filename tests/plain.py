"""The document's words reckoned once more, plainly and slowly, without the package's own code."""

import fractions
import itertools

GREAT = 10 ** 100 - 1
ENDLESS = float("inf")

# Each has no more standings than the slow reckonings below can bear.
LARGER_HALLS = [
    ((2, 3, 4), 2), ((5, 2, 4), None), ((4, 4, 4), 4), ((3, 3, 3, 3), None), ((2, 4, 4, 2), 1),
    ((6, 6), 7), ((1, 9), None), ((2, 2, 2, 2, 2), 1), ((5, 5, 5), 1), ((3, 7), 2), ((7, 3), 1),
]


def small_halls():
    for number in [1, 2, 3]:
        for waits in itertools.product([1, 2, 3, 4] if number < 3 else [1, 2, 3], repeat=number):
            for calm in [None, 1, 2, 3]:
                yield (waits, calm)
    yield from LARGER_HALLS


def every_standing(hall):
    waits, calm = hall
    numbers = [range(1, wait + 1) for wait in waits] + [range((calm or 0) + 1)]
    return [(row[:-1], row[-1]) for row in itertools.product(*numbers)]


def what_the_road_can_do(hall, standing):
    return [False, True] if hall[1] is not None and standing[1] == 0 else [False]


def turn(hall, standing, who, lost):
    """The standing behind the turn, or None."""
    waits, calm = hall
    left = []
    for number, wait in enumerate(waits):
        left.append(wait if number == who and not lost else standing[0][number] - 1)
    if min(left) < 1:
        return None
    return (tuple(left), calm if lost else max(0, standing[1] - 1))


def breaks_within_one_more(hall, standing, sooner):
    """Whether the road can break somebody in this turn or come to one of the standings `sooner`."""
    for who in range(len(hall[0])):
        behind = [turn(hall, standing, who, lost) for lost in what_the_road_can_do(hall, standing)]
        if not any(later is None or later in sooner for later in behind):
            return False
    return True


def plain_ranks(hall):
    everyone = every_standing(hall)
    table = {}
    for k in itertools.count(1):
        within = [standing for standing in everyone if breaks_within_one_more(hall, standing, table)]
        fresh = [standing for standing in within if standing not in table]
        if not fresh:
            return table
        table = {**table, **{standing: k for standing in fresh}}


def plain_worth(hall, table, standing, who, lost):
    behind = turn(hall, standing, who, lost)
    return 0 if behind is None else table.get(behind, ENDLESS)


def plain_call_worth(hall, table, standing, who):
    return min(plain_worth(hall, table, standing, who, lost) for lost in what_the_road_can_do(hall, standing))


def plain_best(hall, table, standing):
    best = 0
    for who in range(len(hall[0])):
        if plain_call_worth(hall, table, standing, who) > plain_call_worth(hall, table, standing, best):
            best = who
    return best


def plain_worst(hall, table, standing, who):
    if True not in what_the_road_can_do(hall, standing):
        return False
    return plain_worth(hall, table, standing, who, True) < plain_worth(hall, table, standing, who, False)


def come_to(hall, turns):
    """All standings from the beginning on, `turns` telling the (who, lost) that can be at a standing."""
    found = {(hall[0], 0)}
    while True:
        behind = {turn(hall, standing, who, lost) for standing in found for who, lost in turns(standing)}
        if behind - {None} <= found:
            return found
        found |= behind - {None}


def plain_heard(wheel, turn):
    """All listeners that a list of (period, first) calls in the turn, found by walking from each first on."""
    return [who for who, (period, first) in enumerate(wheel) if turn in range(first, turn + 1, period)]


def plain_doublings(waits, base):
    told = []
    for wait in waits:
        number = base
        while 2 * number <= wait:
            number = 2 * number
        told.append(number)
    return told


def plain_shares(numbers):
    return sum((fractions.Fraction(1, number) for number in numbers), fractions.Fraction(0))


def plain_best_base(waits):
    fitting = [base for base in range(1, min(waits) + 1) if plain_shares(plain_doublings(waits, base)) <= 1]
    return max(fitting, default=None)
