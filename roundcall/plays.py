"""Plays of a caller against a road, and the round that a kept paper comes to."""

from roundcall.halls import after, beginning, broken_ones
from roundcall.papers import kept_paper


def play(hall, caller, road, turns):
    rows = []
    standing = beginning(hall)
    while len(rows) < turns:
        who = caller.call(hall, standing)
        lost = road.loses(hall, standing, who)
        rows.append((standing, who, lost))
        broken = broken_ones(hall, standing, who, lost)
        if broken:
            return (rows, broken)
        standing = after(hall, standing, who, lost)
    return (rows, [])


def paper_round(hall):
    paper = kept_paper(hall)
    if paper is None:
        return None
    told = dict(paper)
    places = {}
    calls = []
    standing = beginning(hall)
    while standing not in places:
        places[standing] = len(calls)
        calls.append(told[standing])
        standing = after(hall, standing, told[standing])
    return (calls[:places[standing]], calls[places[standing]:])
