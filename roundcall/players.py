"""Players: callers, who are asked whom they call, and roads, which are asked what they lose."""

from roundcall.halls import may_lose


def least_left(standing):
    return standing[0].index(min(standing[0]))


class Caller:
    def call(self, hall, standing):
        return least_left(standing)


class RowCaller(Caller):
    def __init__(self, row):
        self.row = list(row)
        self.asked = 0

    def call(self, hall, standing):
        place = self.asked
        self.asked = place + 1
        if place < len(self.row):
            return self.row[place]
        return least_left(standing)


class PaperCaller(Caller):
    def __init__(self, paper):
        self.paper = dict(paper)

    def call(self, hall, standing):
        if standing in self.paper:
            return self.paper[standing]
        return least_left(standing)


class Road:
    def loses(self, hall, standing, who):
        return False


class RowRoad(Road):
    def __init__(self, row):
        self.row = list(row)
        self.asked = 0

    def loses(self, hall, standing, who):
        place = self.asked
        # Counted ahead of all else: an asking where the road may not lose counts too.
        self.asked = place + 1
        return place < len(self.row) and self.row[place] and may_lose(hall, standing)


class PaperRoad(Road):
    def __init__(self, paper):
        self.paper = dict([(standing, answers) for standing, rank, answers in paper])

    def loses(self, hall, standing, who):
        return may_lose(hall, standing) and standing in self.paper and self.paper[standing][who]
