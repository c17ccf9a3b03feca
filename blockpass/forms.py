"""The calls by their places, and how a call stands in the list of calls."""

BLOCK = 0
TABLE = 1
FOLD = 2
DECIDE = 3
SHORT = 4
DROP = 5
PASS = 6
AGAIN = 7
CLEAR = 8
LOOK = 9
SIZE = 10
LEADS = 11
NEXT = 12
LIVE = 13
IDLE = 14
RINGS = 15
DOMINATORS = 16
CIRCLE = 17
PLACE = 18
ORIGIN = 19
WORTH = 20
FOLDED = 21
TOLD = 22

# Of each call's place: how many whole numbers stand behind it, and then how many rows.
FORMS = {
    0: (1, 2), 1: (1, 2), 2: (0, 0), 3: (0, 0), 4: (0, 0), 5: (0, 0), 6: (0, 0), 7: (0, 0), 8: (0, 0),
    9: (1, 0), 10: (0, 0), 11: (1, 0), 12: (1, 0), 13: (0, 0), 14: (0, 0), 15: (0, 0), 16: (1, 0), 17: (1, 0),
    18: (1, 0), 19: (1, 0), 20: (0, 1), 21: (0, 1), 22: (0, 0),
}


# A call: its place, its whole numbers, its rows; behind is where the next one begins.
class Call:
    def __init__(self, place, whole, rows, behind):
        self.place = place
        self.whole = whole
        self.rows = rows
        self.behind = behind


def call_at(calls, at):
    place = calls[at]
    form = FORMS[place]
    behind = at + 1 + form[0]
    whole = calls[at + 1:behind]
    rows = []
    while len(rows) < form[1]:
        begin = behind + 1
        behind = begin + calls[behind]
        rows.append(calls[begin:behind])
    return Call(place, whole, rows, behind)
