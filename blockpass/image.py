"""The calls on one object that is new, one behind another in one list, and their answers."""

from blockpass.session import (
    Session, do_again, do_clear, do_decide, do_drop, do_fold, do_pass, do_short, leads, look, size, tell_block,
    tell_table,
)

NO_CALL = -9

# Of each call's place: how many whole numbers stand behind it, and then how many rows.
FORMS = {
    0: (1, 2), 1: (1, 2), 2: (0, 0), 3: (0, 0), 4: (0, 0), 5: (0, 0), 6: (0, 0), 7: (0, 0), 8: (0, 0),
    9: (1, 0), 10: (0, 0), 11: (1, 0), 12: (1, 0), 13: (0, 0), 14: (0, 0), 15: (0, 0), 16: (1, 0), 17: (1, 0),
    18: (1, 0), 19: (1, 0), 20: (0, 1), 21: (0, 1), 22: (0, 0),
}


# A call: its place, its whole numbers, its rows; behind is where the next one begins.
class Call:
    def __init__(self, place, whole, rows, behind):
        self.place = place
        self.whole = whole
        self.rows = rows
        self.behind = behind


def call_at(calls, at):
    place = calls[at]
    form = FORMS[place]
    behind = at + 1 + form[0]
    whole = calls[at + 1:behind]
    rows = []
    while len(rows) < form[1]:
        begin = behind + 1
        behind = begin + calls[behind]
        rows.append(calls[begin:behind])
    return Call(place, whole, rows, behind)


def answer_of_work(session, place):
    if place == 2:
        return do_fold(session)
    if place == 3:
        return do_decide(session)
    if place == 4:
        return do_short(session)
    if place == 5:
        return do_drop(session)
    if place == 6:
        return do_pass(session)
    if place == 7:
        return do_again(session)
    return do_clear(session)


def answer_of(session, call):
    if call.place == 0:
        return tell_block(session, call.whole[0], call.rows[0], call.rows[1])
    if call.place == 1:
        return tell_table(session, call.whole[0], call.rows[0], call.rows[1])
    if call.place <= 8:
        return answer_of_work(session, call.place)
    if call.place == 9:
        return look(session, call.whole[0])
    if call.place == 10:
        return size(session)
    if call.place == 11:
        return leads(session, call.whole[0])
    return [NO_CALL]


def answers(calls):
    session = Session()
    given = []
    at = 0
    while at < len(calls):
        call = call_at(calls, at)
        answer = answer_of(session, call)
        given.append(len(answer))
        given.extend(answer)
        at = call.behind
    return given
