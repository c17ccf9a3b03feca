"""The form of a code: a row of whole numbers in which instructions stand whole."""

from blockpass.ratio import greatest_divisor, is_small

MOST_NUMBERS = 500

NUMBER = 0
READ_ONE = 1
READ_OTHER = 2
OF_ONE = 3
OF_TWO = 4
JUMP = 5
JUMP_IF_ZERO = 6
FORMULA = 8
IS_SO = 9
LESSER_OR_GREATER = 10

# By an instruction's first number: how many numbers it has, and how great the second may be where that is told.
SIZES = {0: 3, 1: 2, 2: 2, 3: 2, 4: 2, 5: 2, 6: 2, 7: 2, 8: 3, 9: 1, 10: 2}
HIGHEST_CHOICES = {3: 7, 4: 12, 10: 1}


def instructions_of(row):
    """The instructions of the row, a tuple each; None where one is unknown or doesn't stand whole."""
    found = []
    at = 0
    while at < len(row):
        size = SIZES.get(row[at], 0)
        if size == 0 or at + size > len(row):
            return None
        found.append(tuple(row[at:at + size]))
        at = at + size
    return found


def is_number_as_told(n, d):
    return d >= 1 and is_small((n, d)) and greatest_divisor(n, d) == 1


def is_sound(instruction):
    first = instruction[0]
    if first == NUMBER:
        return is_number_as_told(instruction[1], instruction[2])
    if first in HIGHEST_CHOICES and instruction[1] > HIGHEST_CHOICES[first]:
        return False
    return all([n >= 0 for n in instruction])


def is_code(row):
    if len(row) > MOST_NUMBERS:
        return False
    found = instructions_of(row)
    if found is None:
        return False
    return all([is_sound(instruction) for instruction in found])


def reads_something(instructions):
    return any([instruction[0] in (READ_ONE, READ_OTHER, FORMULA) for instruction in instructions])


def is_jump(instruction):
    return instruction[0] in (JUMP, JUMP_IF_ZERO)


def has_jump(instructions):
    return any([is_jump(instruction) for instruction in instructions])
