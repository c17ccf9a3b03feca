"""The kinds of blocks: how many numbers, which of them are labels, whether a code, whether they go on."""

CREATE = 0
HOLD = 1
GO = 3
IF = 4
WAIT = 5
CHOOSE = 11
CALL = 13
BACK = 14
MATCH = 41

NO_LABEL = -1

# Of each kind: the least and the greatest count of numbers, the index of the label or -1, whether it has a
# code, whether it goes on. A choose's label is the first of several.
KINDS = {
    0: (5, 5, -1, False, True),
    1: (0, 0, -1, True, True),
    2: (2, 2, -1, False, True),
    3: (1, 1, 0, False, False),
    4: (1, 1, 0, True, True),
    5: (0, 0, -1, True, True),
    6: (1, 1, -1, True, True),
    7: (1, 1, -1, True, True),
    8: (0, 0, -1, True, True),
    9: (0, 0, -1, False, True),
    10: (3, 3, -1, False, True),
    11: (3, 33, 2, False, False),
    12: (0, 0, -1, False, True),
    13: (2, 2, 1, False, False),
    14: (1, 1, -1, False, False),
    15: (2, 2, 1, False, True),
    16: (0, 0, -1, True, True),
    17: (1, 1, -1, False, False),
    18: (2, 2, -1, False, True),
    19: (1, 1, -1, False, True),
    20: (1, 1, -1, False, True),
    21: (1, 1, -1, False, True),
    22: (2, 2, -1, False, True),
    23: (4, 4, 2, False, True),
    24: (1, 1, -1, False, True),
    25: (1, 1, -1, True, True),
    26: (1, 1, -1, True, True),
    27: (1, 1, -1, False, True),
    28: (1, 1, -1, False, True),
    29: (1, 1, -1, False, True),
    30: (1, 1, -1, False, True),
    31: (2, 2, -1, False, True),
    32: (2, 2, -1, False, True),
    33: (1, 1, -1, True, True),
    34: (4, 4, 3, False, True),
    35: (4, 4, 3, True, True),
    36: (2, 2, -1, True, True),
    37: (2, 2, 1, False, True),
    38: (3, 3, 1, False, True),
    39: (1, 1, -1, False, True),
    40: (1, 1, -1, False, True),
    41: (1, 1, 0, False, True),
    42: (2, 2, -1, True, True),
    43: (1, 8, -1, False, True),
    44: (2, 9, -1, False, True),
}


def is_kind(kind):
    return kind in KINDS


def count_fits(kind, count):
    if count < KINDS[kind][0] or count > KINDS[kind][1]:
        return False
    return kind != CHOOSE or count % 2 == 1


def label_indexes(kind, count):
    """Which of a block's numbers are labels, rising."""
    label = KINDS[kind][2]
    if label == NO_LABEL:
        return []
    if kind == CHOOSE:
        return list(range(label, count, 2))
    return [label]


def has_code(kind):
    return KINDS[kind][3]


def goes_on(kind):
    return KINDS[kind][4]
