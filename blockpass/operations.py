"""What an instruction makes of the numbers that it takes: a tuple of the error, 0 if there is none, and the number."""

from blockpass.errors import BY_ZERO, NO_ERROR, NOT_SMALL, OUTSIDE, UNSOUND
from blockpass.instructions import IS_SO, LESSER_OR_GREATER, OF_ONE, OF_TWO
from blockpass.ratio import (
    ONE, ZERO, divided, is_less, is_small, is_whole, lowest, minus, plus, rounded_down, rounded_up, times, truth,
)
from blockpass.tables import table_at

POWER = 6
FIRST_COMPARISON = 7
HIGHEST_POWER = 64

# By an instruction's first number, of those that make a number of others: how many they take.
TAKES = {3: 1, 4: 2, 7: 1, 9: 1, 10: 2}


def takes(instruction):
    """How many numbers the instruction makes another one of; 0 if it makes none."""
    return TAKES.get(instruction[0], 0)


def sign(n):
    if n < 0:
        return -1
    if n > 0:
        return 1
    return 0


def made_of_one(choice, a):
    if choice == 0:
        return (-a[0], a[1])
    if choice == 1:
        return truth(a == ZERO)
    if choice == 2:
        return rounded_down(a)
    if choice == 3:
        return rounded_up(a)
    if choice == 4:
        return (abs(a[0]), a[1])
    if choice == 5:
        return (sign(a[0]), 1)
    if choice == 6:
        return (a[0], 1)
    return (a[1], 1)


def compared(choice, a, b):
    if choice == 7:
        return a == b
    if choice == 8:
        return a != b
    if choice == 9:
        return is_less(a, b)
    if choice == 10:
        return not is_less(b, a)
    if choice == 11:
        return is_less(b, a)
    return not is_less(a, b)


def power(a, b):
    if not is_whole(b) or abs(b[0]) > HIGHEST_POWER:
        return (OUTSIDE, ZERO)
    if b[0] < 0 and a == ZERO:
        return (BY_ZERO, ZERO)
    factor = a if b[0] >= 0 else lowest(a[1], a[0])
    # Powers of what is in lowest terms are so too; and further factors never make small again what isn't small.
    found = ONE
    for k in range(abs(b[0])):
        found = (found[0] * factor[0], found[1] * factor[1])
        if not is_small(found):
            return (NOT_SMALL, ZERO)
    return (NO_ERROR, found)


def quotient(choice, a, b):
    """a / b; that rounded down; what is left of a then; b isn't 0."""
    exact = divided(a, b)
    if choice == 3:
        return exact
    if choice == 4:
        return rounded_down(exact)
    return minus(a, times(b, rounded_down(exact)))


def reckoned(choice, a, b):
    """The first six of the instructions with two numbers; b isn't 0 where it divides."""
    if choice == 0:
        return plus(a, b)
    if choice == 1:
        return minus(a, b)
    if choice == 2:
        return times(a, b)
    return quotient(choice, a, b)


def made_of_two(choice, a, b):
    if choice >= FIRST_COMPARISON:
        return (NO_ERROR, truth(compared(choice, a, b)))
    if choice == POWER:
        return power(a, b)
    if choice >= 3 and b == ZERO:
        return (BY_ZERO, ZERO)
    found = reckoned(choice, a, b)
    if not is_small(found):
        return (NOT_SMALL, ZERO)
    return (NO_ERROR, found)


def lesser_or_greater(choice, a, b):
    if is_less(a, b) == (choice == 0):
        return a
    return b


def made(instruction, taken, tables):
    """What an instruction that takes numbers makes of those taken, a in front of b."""
    first = instruction[0]
    if first == OF_ONE:
        return (NO_ERROR, made_of_one(instruction[1], taken[0]))
    if first == OF_TWO:
        return made_of_two(instruction[1], taken[0], taken[1])
    if first == IS_SO:
        return (NO_ERROR, truth(taken[0] != ZERO))
    if first == LESSER_OR_GREATER:
        return (NO_ERROR, lesser_or_greater(instruction[1], taken[0], taken[1]))
    if instruction[1] >= len(tables):
        return (UNSOUND, ZERO)
    return table_at(tables[instruction[1]], taken[0])
