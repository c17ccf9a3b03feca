"""The errors of a code, by their numbers."""

NO_ERROR = 0
NOT_SMALL = 1
BY_ZERO = 2
OUTSIDE = 3
UNSOUND = 9
