"""Numbers: a number is a tuple (numerator, denominator), in lowest terms, the denominator 1 at least."""

GREATEST = 1000000000000000000
ZERO = (0, 1)
ONE = (1, 1)


def greatest_divisor(a, b):
    """The greatest whole number that divides both, of which one isn't 0."""
    left = abs(a)
    right = abs(b)
    while right != 0:
        rest = left % right
        left = right
        right = rest
    return left


def lowest(n, d):
    """The number n / d; d isn't 0, but may be below it."""
    divisor = greatest_divisor(n, d)
    if d < 0:
        divisor = -divisor
    return (n // divisor, d // divisor)


def in_range(n):
    return -GREATEST <= n <= GREATEST


def is_small(a):
    return in_range(a[0]) and a[1] <= GREATEST


def is_whole(a):
    return a[1] == 1


def plus(a, b):
    return lowest(a[0] * b[1] + b[0] * a[1], a[1] * b[1])


def minus(a, b):
    return lowest(a[0] * b[1] - b[0] * a[1], a[1] * b[1])


def times(a, b):
    return lowest(a[0] * b[0], a[1] * b[1])


def divided(a, b):
    """a / b; b isn't 0."""
    return lowest(a[0] * b[1], a[1] * b[0])


def rounded_down(a):
    return (a[0] // a[1], 1)


def rounded_up(a):
    return (-(-a[0] // a[1]), 1)


def is_less(a, b):
    return a[0] * b[1] < b[0] * a[1]


def truth(held):
    if held:
        return ONE
    return ZERO
