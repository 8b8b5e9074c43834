"""Papers by which whoever plans nothing keeps a hall, or breaks it."""

from roundcall.halls import after, all_behind, beginning
from roundcall.settle import best_call, ranks, worst_answer


def kept_paper(hall):
    table = ranks(hall)
    if beginning(hall) in table:
        return None
    calls = {}
    coming = [beginning(hall)]
    while coming:
        standing = coming.pop()
        if standing not in calls:
            calls[standing] = best_call(hall, table, standing)
            coming.extend(all_behind(hall, standing, calls[standing]))
    return sorted(calls.items())


def all_answers(hall, table, standing):
    return tuple([worst_answer(hall, table, standing, who) for who in range(len(hall[0]))])


def unbroken_behind(hall, standing, answers):
    behind = [after(hall, standing, who, lost) for who, lost in enumerate(answers)]
    return [later for later in behind if later is not None]


def broken_paper(hall):
    table = ranks(hall)
    if beginning(hall) not in table:
        return None
    told = {}
    coming = [beginning(hall)]
    while coming:
        standing = coming.pop()
        if standing not in told:
            told[standing] = all_answers(hall, table, standing)
            coming.extend(unbroken_behind(hall, standing, told[standing]))
    return sorted([(standing, table[standing], answers) for standing, answers in told.items()])
