"""Chains of periods, doublings of waits, and the wheels that are told for them."""

from roundcall.errors import NoChain, NoWheel, TooMuch
from roundcall.wholes import least_round, shares


def are_chain(periods):
    rising = sorted(periods)
    # Neighbours are enough: what divides the next one divides all behind that, too.
    return all([later % earlier == 0 for earlier, later in zip(rising, rising[1:])])


def have_room(periods):
    told = shares(periods)
    return told[0] <= told[1]


def free_first(levels, taken):
    # taken is how much is filled so far, told in listeners of the greatest period. It is
    # read as figures, one for each level: where two firsts have unlike figures on a level,
    # that level's period keeps them apart for ever.
    first = 0
    step = 1
    for period in levels:
        size = levels[-1] // period
        first += taken // size * step
        taken = taken % size
        step = period
    return first


def rising_firsts(periods):
    levels = [1]
    taken = 0
    firsts = []
    for period in periods:
        taken = taken * (period // levels[-1])
        if period > levels[-1]:
            levels.append(period)
        firsts.append(free_first(levels, taken))
        taken += 1
    return firsts


def chain_wheel(periods):
    if any([period < 1 for period in periods]):
        raise NoWheel("a period is below 1")
    if not are_chain(periods):
        raise NoChain("of two periods neither one divides the other")
    if not have_room(periods):
        raise TooMuch("the shares of the periods come to more than 1")
    order = sorted(range(len(periods)), key=lambda number: periods[number])
    rows = [(period, 0) for period in periods]
    for number, first in zip(order, rising_firsts(sorted(periods))):
        rows[number] = (periods[number], first)
    return rows


def doubling(wait, base):
    times = wait // base
    return base << (times.bit_length() - 1)


def doubled(waits, base):
    if base < 1 or any([wait < base for wait in waits]):
        raise NoWheel("the base is below 1 or above a wait")
    return [doubling(wait, base) for wait in waits]


def halved_down(wait, most):
    while wait > most:
        wait = wait // 2
    return wait


def best_base(waits):
    if len(waits) == 0 or min(waits) < 1:
        raise NoWheel("there are no waits, or one is below 1")
    least = min(waits)
    # One base for each wait is enough: halved further it is no more than half of the
    # least wait, and twice such a base is a greater one with the same doublings.
    bases = [halved_down(wait, least) for wait in waits]
    return max([base for base in sorted(set(bases)) if have_room(doubled(waits, base))], default=None)


def wheel_for(waits):
    base = best_base(waits)
    if base is None:
        return None
    return (base, chain_wheel(doubled(waits, base)))


def too_much(waits):
    turns = least_round(waits)
    # Each listener has to be called turns // wait times in these turns.
    needed = sum([turns // wait for wait in waits])
    return turns if needed > turns else None
