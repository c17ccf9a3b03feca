"""The refusals of calls, by their numbers."""

BEGUN = -1
NO_ROOM = -2
BAD_FORM = -3
NO_CODE = -4
NOT_READY = -5
NO_BLOCK = -6
NO_PLACE = -10
