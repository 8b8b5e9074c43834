"""A desk that is told rows of words and answers each by a text."""

from roundcall.chains import wheel_for
from roundcall.errors import NoRow, NoStand, Unsafe
from roundcall.halls import after, beginning, broken_ones, hall_of
from roundcall.joins import joined, left_out
from roundcall.settle import best_call, ranks, worst_answer
from roundcall.wheels import heard

FIGURES = "0123456789"
MOST_FIGURES = 100
ROWS_ALONE = ("best", "rank")
ROWS_WITH_ONE = ("call", "lost", "answer", "join", "leave", "turn")
ROWS_WITH_SOME = ("hall", "wheel")


def is_number(word):
    # Sign by sign, since isdigit takes figures of other scripts too.
    if not all([sign in FIGURES for sign in word]):
        return False
    if len(word) < 1 or len(word) > MOST_FIGURES:
        return False
    return word == "0" or word[0] != "0"


def numbers_of(words):
    if not all([is_number(word) for word in words]):
        raise NoRow("a word is no number")
    return [int(word) for word in words]


def takes(word, size):
    if word in ROWS_ALONE:
        return size == 0
    if word in ROWS_WITH_ONE:
        return size == 1
    return word in ROWS_WITH_SOME and size > 0


def row_read(row):
    if not isinstance(row, str):
        raise NoRow("a row is a text")
    words = row.split(" ")
    calm = None
    if words[0] == "hall" and words[-2:-1] == ["calm"]:
        calm = numbers_of(words[-1:])[0]
        words = words[:-2]
    numbers = numbers_of(words[1:])
    if not takes(words[0], len(numbers)):
        raise NoRow("there is no such row")
    return (words[0], numbers, calm)


def numbers_text(numbers):
    return " ".join([str(number) for number in numbers])


def place_text(place):
    period = place[0]
    first = place[1]
    return f"{period}+{first}"


class Desk:
    def __init__(self):
        self.hall = None
        self.standing = None
        self.table = None
        self.wheel = None

    def told(self, row):
        read = row_read(row)
        word = read[0]
        numbers = read[1]
        self.refuse_without_stand(word)
        if word == "hall":
            return self.new_hall(hall_of(numbers, read[2]))
        if word == "wheel":
            return self.new_wheel(wheel_for(numbers))
        if word == "best":
            return str(best_call(self.hall, self.table, self.standing))
        if word == "rank":
            return self.rank_text()
        return self.told_of_one(word, numbers[0])

    def told_of_one(self, word, number):
        if word == "turn":
            who = heard(self.wheel, number)
            return "nobody" if who is None else str(who)
        if word == "answer":
            return "lost" if worst_answer(self.hall, self.table, self.standing, number) else "reached"
        if word == "join":
            return self.let_join(number)
        if word == "leave":
            return self.let_leave(number)
        return self.do_turn(number, word == "lost")

    def refuse_without_stand(self, word):
        if word == "turn" and self.wheel is None:
            raise NoStand("there is no wheel yet")
        if word not in ("hall", "wheel", "turn") and self.hall is None:
            raise NoStand("there is no hall yet")

    def put(self, hall, standing, table):
        self.hall = hall
        self.standing = standing
        # Kept, since reckoning it anew in every turn would take long.
        self.table = table

    def new_hall(self, hall):
        table = ranks(hall)
        self.put(hall, beginning(hall), table)
        if self.standing in table:
            return "broken within " + str(table[self.standing])
        return "kept"

    def new_wheel(self, found):
        if found is None:
            return "none"
        self.wheel = found[1]
        return " ".join(["base " + str(found[0])] + [place_text(place) for place in found[1]])

    def rank_text(self):
        if self.standing in self.table:
            return str(self.table[self.standing])
        return "safe"

    def do_turn(self, who, lost):
        broken = broken_ones(self.hall, self.standing, who, lost)
        if broken:
            self.standing = beginning(self.hall)
            return "broken " + numbers_text(broken)
        self.standing = after(self.hall, self.standing, who, lost)
        return "left " + numbers_text(self.standing[0]) + " quiet " + str(self.standing[1])

    def let_join(self, wait):
        coming = joined(self.hall, self.standing, wait)
        table = ranks(coming[0])
        if coming[1] in table:
            raise Unsafe("the listener may not join at this standing")
        number = len(self.hall[0])
        self.put(coming[0], coming[1], table)
        return "joined " + str(number)

    def let_leave(self, who):
        staying = left_out(self.hall, self.standing, who)
        self.put(staying[0], staying[1], ranks(staying[0]))
        return "gone " + str(who)
