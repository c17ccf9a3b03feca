"""One object, what it is told, and the work; each call answers a list of whole numbers."""

from blockpass.blocks import MOST_BLOCKS, Block, are_ready, is_block_form
from blockpass.instructions import is_code
from blockpass.refusals import BAD_FORM, BEGUN, NO_CODE, NO_ROOM, NOT_READY
from blockpass.tables import table_of
from blockpass.work import Image, decide, drop, fold, short

MOST_TABLES = 64


# What was told; and the image that is worked on, None if the work hasn't begun.
class Session:
    def __init__(self):
        self.tables = []
        self.told = []
        self.worked = None


def image_now(session):
    if session.worked is None:
        return Image(session.told)
    return session.worked


def tell_block(session, kind, numbers, code):
    if session.worked is not None:
        return [BEGUN]
    if len(session.told) == MOST_BLOCKS:
        return [NO_ROOM]
    if not is_block_form(kind, numbers, code):
        return [BAD_FORM]
    if not is_code(code):
        return [NO_CODE]
    session.told.append(Block(kind, list(numbers), list(code)))
    return [len(session.told) - 1]


def tell_table(session, kind, xs, ys):
    if session.worked is not None:
        return [BEGUN]
    if len(session.tables) == MOST_TABLES:
        return [NO_ROOM]
    table = table_of(kind, xs, ys)
    if table is None:
        return [BAD_FORM]
    session.tables.append(table)
    return [len(session.tables) - 1]


def begin(session):
    """Begins the work if it hasn't begun; whether the image now is ready for it."""
    image = image_now(session)
    if not are_ready(image.blocks):
        return False
    session.worked = image
    return True


def do_fold(session):
    if not begin(session):
        return [NOT_READY]
    return [0, fold(session.worked, session.tables)]


def do_decide(session):
    if not begin(session):
        return [NOT_READY]
    return [0, decide(session.worked, session.tables)]


def do_short(session):
    if not begin(session):
        return [NOT_READY]
    return [0, short(session.worked, session.tables)]


def do_drop(session):
    if not begin(session):
        return [NOT_READY]
    return [0, drop(session.worked, session.tables)]


def do_pass(session):
    if not begin(session):
        return [NOT_READY]
    answer = [0]
    answer.append(fold(session.worked, session.tables))
    answer.append(decide(session.worked, session.tables))
    answer.append(short(session.worked, session.tables))
    answer.append(drop(session.worked, session.tables))
    return answer


def do_again(session):
    session.worked = None
    return [0]


def do_clear(session):
    session.tables = []
    session.told = []
    session.worked = None
    return [0]
