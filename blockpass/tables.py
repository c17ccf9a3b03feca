"""Tables: how one is told, and what it is worth at a number."""

from blockpass.errors import NO_ERROR, NOT_SMALL, OUTSIDE
from blockpass.ratio import GREATEST, ZERO, divided, in_range, is_less, is_small, is_whole, lowest, minus, plus, times

STEPS = 0
LINES = 1
ROW = 2
MOST_POINTS = 64


class Table:
    def __init__(self, kind, xs, ys):
        self.kind = kind
        self.xs = xs
        self.ys = ys


def numbers_of_pairs(row):
    """The numbers of a row of numerators and denominators; None if it isn't one."""
    if len(row) % 2 != 0:
        return None
    found = []
    for at in range(0, len(row), 2):
        n = row[at]
        d = row[at + 1]
        if not in_range(n) or d < 1 or d > GREATEST:
            return None
        found.append(lowest(n, d))
    return found


def is_rising(xs):
    return all([is_less(xs[k - 1], xs[k]) for k in range(1, len(xs))])


def table_of(kind, x_row, y_row):
    """The table that is told so; None if it isn't of the form told."""
    xs = numbers_of_pairs(x_row)
    ys = numbers_of_pairs(y_row)
    if kind not in (STEPS, LINES, ROW) or xs is None or ys is None:
        return None
    if len(ys) < 1 or len(ys) > MOST_POINTS:
        return None
    due = 0 if kind == ROW else len(ys)
    if len(xs) != due or not is_rising(xs):
        return None
    return Table(kind, xs, ys)


def first_not_less(xs, a):
    """The index of the first x that isn't less than a; how many there are, if all are."""
    for k in range(len(xs)):
        if not is_less(xs[k], a):
            return k
    return len(xs)


def on_line(table, k, a):
    """The value at a of the straight line from point k - 1 to point k."""
    rise = minus(table.ys[k], table.ys[k - 1])
    run = minus(table.xs[k], table.xs[k - 1])
    part = divided(minus(a, table.xs[k - 1]), run)
    return plus(table.ys[k - 1], times(rise, part))


def row_at(ys, a):
    if not is_whole(a) or a[0] < 1 or a[0] > len(ys):
        return (OUTSIDE, ZERO)
    return (NO_ERROR, ys[a[0] - 1])


def table_at(table, a):
    """A tuple: the error, 0 if there is none, and what the table is worth at a."""
    if table.kind == ROW:
        return row_at(table.ys, a)
    k = first_not_less(table.xs, a)
    if k == len(table.xs):
        return (NO_ERROR, table.ys[k - 1])
    if table.kind == STEPS or k == 0:
        return (NO_ERROR, table.ys[k])
    found = on_line(table, k, a)
    if not is_small(found):
        return (NOT_SMALL, ZERO)
    return (NO_ERROR, found)
