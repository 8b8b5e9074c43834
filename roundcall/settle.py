"""What is settled of a hall: ranks, best calls and worst answers.

The ranks of a hall are a dict of all standings that have one; what is not in it is safe.
"""

from roundcall.halls import after, all_behind, may_lose, standings


def calls_by_standing(hall):
    # Calls in which the road can break somebody at once are left out: there is nothing to settle of them.
    pending = {}
    for standing in standings(hall):
        calls = {}
        for who in range(len(hall[0])):
            behind = all_behind(hall, standing, who)
            if None not in behind:
                calls[who] = behind
        pending[standing] = calls
    return pending


def ways_to(pending):
    ways = {}
    for standing, calls in pending.items():
        for who, behind in calls.items():
            for later in behind:
                ways.setdefault(later, []).append((standing, who))
    return ways


def without_calls_left(pending, ways, ranked):
    bare = []
    for later in ranked:
        for standing, who in ways.get(later, []):
            calls = pending[standing]
            # A call can lead to two ranked standings, but counts once, with the lesser rank.
            if who in calls:
                calls.pop(who)
                if not calls:
                    bare.append(standing)
    return bare


def ranks(hall):
    # Reckoned backwards, rank by rank, since each way is then walked once, however great the ranks are.
    pending = calls_by_standing(hall)
    ways = ways_to(pending)
    table = {}
    rank = 1
    ranked = [standing for standing, calls in pending.items() if not calls]
    while ranked:
        for standing in ranked:
            table[standing] = rank
        ranked = without_calls_left(pending, ways, ranked)
        rank = rank + 1
    return table


def worth(table, behind):
    # A pair, so that what is safe is worth more than every number.
    if behind is None:
        return (0, 0)
    if behind in table:
        return (0, table[behind])
    return (1, 0)


def call_worth(hall, table, standing, who):
    return min([worth(table, behind) for behind in all_behind(hall, standing, who)])


def best_call(hall, table, standing):
    worths = [call_worth(hall, table, standing, who) for who in range(len(hall[0]))]
    return worths.index(max(worths))


def worst_answer(hall, table, standing, who):
    reached = worth(table, after(hall, standing, who))
    if not may_lose(hall, standing):
        return False
    return worth(table, after(hall, standing, who, True)) < reached
