"""What a code is worth, and a code folded."""

from blockpass.errors import NO_ERROR, UNSOUND
from blockpass.instructions import JUMP, NUMBER, has_jump, instructions_of, is_jump, reads_something
from blockpass.operations import made, takes
from blockpass.ratio import ZERO


def jump_length(instruction, stack):
    """How many instructions are jumped over; None if there is nothing to take off for it."""
    if instruction[0] == JUMP:
        return instruction[1]
    if len(stack) == 0:
        return None
    if stack.pop() == ZERO:
        return instruction[1]
    return 0


def do(instruction, stack, tables):
    """Does an instruction that isn't a jump; answers the error, 0 if there is none."""
    if instruction[0] == NUMBER:
        stack.append((instruction[1], instruction[2]))
        return NO_ERROR
    count = takes(instruction)
    if len(stack) < count:
        return UNSOUND
    found = made(instruction, stack[len(stack) - count:], tables)
    for k in range(count):
        stack.pop()
    if found[0] == NO_ERROR:
        stack.append(found[1])
    return found[0]


def worth(instructions, tables):
    """A tuple: the error, 0 if there is none, and the number; of instructions that read nothing."""
    stack = []
    at = 0
    while at < len(instructions):
        instruction = instructions[at]
        at = at + 1
        if is_jump(instruction):
            length = jump_length(instruction, stack)
            if length is None or at + length > len(instructions):
                return (UNSOUND, ZERO)
            at = at + length
        else:
            error = do(instruction, stack, tables)
            if error != NO_ERROR:
                return (error, ZERO)
    if len(stack) != 1:
        return (UNSOUND, ZERO)
    return (NO_ERROR, stack[0])


def constant_worth(code, tables):
    """The number that the code is worth; None if it isn't constant."""
    instructions = instructions_of(code)
    if reads_something(instructions):
        return None
    found = worth(instructions, tables)
    if found[0] != NO_ERROR:
        return None
    return found[1]


def worked_out(instruction, kept, tables):
    """The number that an instruction makes of the instructions 0 that were kept last; None if that can't be."""
    count = takes(instruction)
    last = kept[max(0, len(kept) - count):]
    if count == 0 or len(last) < count or any([other[0] != NUMBER for other in last]):
        return None
    found = made(instruction, [(other[1], other[2]) for other in last], tables)
    if found[0] != NO_ERROR:
        return None
    return found[1]


def folded_instructions(instructions, tables):
    kept = []
    for instruction in instructions:
        number = worked_out(instruction, kept, tables)
        if number is None:
            kept.append(instruction)
        else:
            kept = kept[:len(kept) - takes(instruction)]
            kept.append((NUMBER, number[0], number[1]))
    return kept


def folded(code, tables):
    number = constant_worth(code, tables)
    if number is not None:
        return [NUMBER, number[0], number[1]]
    instructions = instructions_of(code)
    if has_jump(instructions):
        return list(code)
    row = []
    for instruction in folded_instructions(instructions, tables):
        row.extend(instruction)
    return row
