"""Divisors, least rounds and shares of whole numbers."""


def divisor(one, other):
    while other > 0:
        rest = one % other
        one = other
        other = rest
    return one


def least_round(numbers):
    common = 1
    for number in numbers:
        common = common // divisor(common, number) * number
    return common


def shares(numbers):
    bottom = least_round(numbers)
    top = sum([bottom // number for number in numbers])
    both = divisor(top, bottom)
    return (top // both, bottom // both)
