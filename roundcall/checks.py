"""Checkers of papers, whoever wrote them.

They look at the papers' own standings alone, so the hall may have any number of them.
"""

from roundcall.halls import after, all_behind, beginning, is_listener, may_lose


def lets_kept(hall, paper):
    listed = dict(paper)
    if len(listed) < len(paper) or beginning(hall) not in listed:
        return False
    for standing, who in paper:
        if not is_listener(hall, who):
            return False
        for behind in all_behind(hall, standing, who):
            if behind is None or behind not in listed:
                return False
    return True


def may_answer(hall, standing, answers):
    if len(answers) != len(hall[0]):
        return False
    return may_lose(hall, standing) or True not in answers


def goes_down(hall, listed, standing, answers):
    for who, lost in enumerate(answers):
        behind = after(hall, standing, who, lost)
        if behind is not None and (behind not in listed or listed[behind] >= listed[standing]):
            return False
    return True


def lets_broken(hall, paper):
    listed = dict([(standing, rank) for standing, rank, answers in paper])
    if len(listed) < len(paper) or beginning(hall) not in listed:
        return False
    for standing, rank, answers in paper:
        if rank < 1 or not may_answer(hall, standing, answers):
            return False
        if not goes_down(hall, listed, standing, answers):
            return False
    return True
