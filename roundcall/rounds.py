"""Walks through rows of calls, and rounds of calls that go on for ever."""

from roundcall.halls import after


def walked(hall, standing, calls, losses):
    turns = 0
    here = standing
    for who, lost in zip(calls, losses):
        here = after(hall, here, who, lost)
        if here is None:
            return (turns, None)
        turns = turns + 1
    return (turns, here)


def longest(calls, who):
    places = [place for place, called in enumerate(calls) if called == who]
    if not places:
        return None
    gaps = [later - place for place, later in zip(places, places[1:])]
    # The way from the last call round to the first one is a gap too.
    gaps.append(len(calls) - places[-1] + places[0])
    return max(gaps)


def keeps(hall, calls):
    for who, wait in enumerate(hall[0]):
        turns = longest(calls, who)
        if turns is None or turns > wait:
            return False
    return True
