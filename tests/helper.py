"""Calls put together and answers taken apart, for the tests."""

from blockpass.image import answers

BIG = 10 ** 18

FOLD = [2]
DECIDE = [3]
SHORT = [4]
DROP = [5]
PASS = [6]
AGAIN = [7]
CLEAR = [8]
SIZE = [10]
LIVE = [13]
IDLE = [14]
RINGS = [15]
TOLD = [22]

# Kind: the counts of numbers that it may have, the indexes of labels (with the least count), code, goes on.
EXPECTED_KINDS = {}
for kinds, counts, labels, code, on in (
    ((0,), (5,), (), False, True),
    ((1, 5, 8, 16), (0,), (), True, True),
    ((2, 18, 22, 31, 32), (2,), (), False, True),
    ((3,), (1,), (0,), False, False),
    ((4,), (1,), (0,), True, True),
    ((6, 7, 25, 26, 33), (1,), (), True, True),
    ((9, 12), (0,), (), False, True),
    ((10,), (3,), (), False, True),
    ((11,), tuple(range(3, 34, 2)), (2,), False, False),
    ((13,), (2,), (1,), False, False),
    ((14,), (1,), (), False, False),
    ((15, 37), (2,), (1,), False, True),
    ((17,), (1,), (), False, False),
    ((19, 20, 21, 24, 27, 28, 29, 30, 39, 40), (1,), (), False, True),
    ((23,), (4,), (2,), False, True),
    ((34,), (4,), (3,), False, True),
    ((35,), (4,), (3,), True, True),
    ((36, 42), (2,), (), True, True),
    ((38,), (3,), (1,), False, True),
    ((41,), (1,), (0,), False, True),
    ((43,), tuple(range(1, 9)), (), False, True),
    ((44,), tuple(range(2, 10)), (), False, True),
):
    for kind in kinds:
        EXPECTED_KINDS[kind] = (counts, labels, code, on)


def block(kind, numbers=(), code=()):
    return [0, kind, len(numbers), *numbers, len(code), *code]


def table(kind, xs, ys):
    return [1, kind, len(xs), *xs, len(ys), *ys]


def look(i):
    return [9, i]


def leads(i):
    return [11, i]


def next_of(i):
    return [12, i]


def dominators(i):
    return [16, i]


def circle(i):
    return [17, i]


def place(i):
    return [18, i]


def origin(i):
    return [19, i]


def worth(code):
    return [20, len(code), *code]


def folded(code):
    return [21, len(code), *code]


def number(n, d=1):
    return [0, n, d]


def create(rate=1):
    return block(0, [0, 0, 0, rate, 0])


def hold(code):
    return block(1, [], code)


def go(label):
    return block(3, [label])


def when(label, code):
    return block(4, [label], code)


def wait(code):
    return block(5, [], code)


def choose(*labels):
    numbers = [7]
    for label in labels:
        numbers += [1, label]
    return block(11, numbers)


def call(label):
    return block(13, [0, label])


def back():
    return block(14, [0])


def end():
    return block(17, [0])


def match(label):
    return block(41, [label])


def plain():
    """A block that does something and goes on."""
    return block(9)


def shown(kind, numbers=(), code=()):
    """What look answers of such a block."""
    return [kind, len(numbers), *numbers, len(code), *code]


def listed(*row):
    return [len(row), *row]


def split(given):
    """The list of the answers, each a list."""
    found = []
    at = 0
    while at < len(given):
        behind = at + 1 + given[at]
        found.append(given[at + 1:behind])
        at = behind
    return found


def run(*calls):
    """The answers of the calls, each a list."""
    row = []
    for one in calls:
        row += one
    found = split(answers(row))
    if len(found) != len(calls):
        raise AssertionError(f"{len(calls)} calls, {len(found)} answers")
    return found


def last(*calls):
    """The last call's answer."""
    return run(*calls)[-1]


def image_after(told, work, n):
    """What look answers of each of the n blocks, behind the work on what was told."""
    calls = list(told) + list(work) + [SIZE] + [look(i) for i in range(n)]
    found = run(*calls)
    if found[len(told) + len(work)][0] != n:
        raise AssertionError(f"not {n} blocks: {found}")
    return found[len(told) + len(work) + 1:]
