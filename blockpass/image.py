"""The calls on one object that is new, one behind another in one list, and their answers."""

from blockpass.forms import (
    AGAIN, BLOCK, CLEAR, DECIDE, DROP, FOLD, FOLDED, PASS, PLACE, SHORT, TABLE, WORTH, call_at,
)
from blockpass.questions import about_block, about_image, folded_code, place_of, worth_of
from blockpass.session import (
    Session, do_again, do_clear, do_decide, do_drop, do_fold, do_pass, do_short, tell_block, tell_table,
)


def answer_of_work(session, place):
    if place == FOLD:
        return do_fold(session)
    if place == DECIDE:
        return do_decide(session)
    if place == SHORT:
        return do_short(session)
    if place == DROP:
        return do_drop(session)
    if place == PASS:
        return do_pass(session)
    if place == AGAIN:
        return do_again(session)
    return do_clear(session)


def answer_of_question(session, call):
    if call.place == PLACE:
        return place_of(session, call.whole[0])
    if call.place == WORTH:
        return worth_of(session, call.rows[0])
    if call.place == FOLDED:
        return folded_code(session, call.rows[0])
    if len(call.whole) == 1:
        return about_block(session, call.place, call.whole[0])
    return about_image(session, call.place)


def answer_of(session, call):
    if call.place == BLOCK:
        return tell_block(session, call.whole[0], call.rows[0], call.rows[1])
    if call.place == TABLE:
        return tell_table(session, call.whole[0], call.rows[0], call.rows[1])
    if call.place <= CLEAR:
        return answer_of_work(session, call.place)
    return answer_of_question(session, call)


def answers(calls):
    session = Session()
    given = []
    at = 0
    while at < len(calls):
        call = call_at(calls, at)
        answer = answer_of(session, call)
        given.append(len(answer))
        given.extend(answer)
        at = call.behind
    return given
