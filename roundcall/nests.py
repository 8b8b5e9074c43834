"""Nests: wheels whose numbers are listeners with names, or wheels with parts again."""

from roundcall.chains import wheel_for
from roundcall.errors import NoPart, NoWheel
from roundcall.wheels import called_times, heard

MOST_DEPTH = 8


def any_twice(names):
    return len(set(names)) < len(names)


class Part:
    # One and Many answer for themselves; a bare part is a nest without listeners.
    def called(self, turn):
        return None

    def rows(self):
        return []

    def depth(self):
        return 0


class One(Part):
    def __init__(self, name):
        self.name = name

    def called(self, turn):
        return self.name

    def rows(self):
        return [(self.name, 1, 0)]

    def depth(self):
        return 0


class Many(Part):
    def __init__(self, wheel, parts):
        if len(parts) != len(wheel):
            raise NoPart("there are not as many parts as the wheel has numbers")
        self.wheel = list(wheel)
        self.parts = list(parts)
        if any_twice([row[0] for row in self.rows()]):
            raise NoPart("a name is there twice")
        if self.depth() > MOST_DEPTH:
            raise NoPart("the depth is above eight")

    def called(self, turn):
        number = heard(self.wheel, turn)
        if number is None:
            return None
        return self.parts[number].called(called_times(self.wheel, number, 0, turn))

    def rows(self):
        told = []
        for part, place in zip(self.parts, self.wheel):
            for name, period, first in part.rows():
                told.append((name, place[0] * period, place[1] + place[0] * first))
        return told

    def depth(self):
        return 1 + max([part.depth() for part in self.parts], default=0)


def refuse_wrong_groups(groups):
    if len(groups) == 0:
        raise NoWheel("there are no groups")
    for wait, members in groups:
        if len(members) == 0:
            raise NoWheel("a group has no members")
        if wait < 1 or min([member[1] for member in members]) < 1:
            raise NoWheel("a wait is below 1")
    names = []
    for wait, members in groups:
        names.extend([member[0] for member in members])
    if any_twice(names):
        raise NoPart("a name is there twice")


def group_part(members, period):
    # Asked ahead, since a wait of 0 would be refused where None is to be told.
    if min([wait for name, wait in members]) < period:
        return None
    told = wheel_for([wait // period for name, wait in members])
    if told is None:
        return None
    return Many(told[1], [One(name) for name, wait in members])


def grouped(groups):
    refuse_wrong_groups(groups)
    told = wheel_for([wait for wait, members in groups])
    if told is None:
        return None
    parts = [group_part(group[1], place[0]) for group, place in zip(groups, told[1])]
    if None in parts:
        return None
    return Many(told[1], parts)
