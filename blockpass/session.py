"""One object and the calls on it; each call answers a list of whole numbers."""

from blockpass.blocks import MOST_BLOCKS, Block, are_ready, is_block_form
from blockpass.instructions import is_code
from blockpass.tables import table_of
from blockpass.ways import Ways, is_frozen, live_marks, trail
from blockpass.work import Image, decide, drop, fold, short

MOST_TABLES = 64

BEGUN = -1
NO_ROOM = -2
BAD_FORM = -3
NO_CODE = -4
NOT_READY = -5
NO_BLOCK = -6


# What was told; and the image that is worked on, None if the work hasn't begun.
class Session:
    def __init__(self):
        self.tables = []
        self.told = []
        self.worked = None


def image_now(session):
    if session.worked is None:
        return Image(session.told)
    return session.worked


def tell_block(session, kind, numbers, code):
    if session.worked is not None:
        return [BEGUN]
    if len(session.told) == MOST_BLOCKS:
        return [NO_ROOM]
    if not is_block_form(kind, numbers, code):
        return [BAD_FORM]
    if not is_code(code):
        return [NO_CODE]
    session.told.append(Block(kind, list(numbers), list(code)))
    return [len(session.told) - 1]


def tell_table(session, kind, xs, ys):
    if session.worked is not None:
        return [BEGUN]
    if len(session.tables) == MOST_TABLES:
        return [NO_ROOM]
    table = table_of(kind, xs, ys)
    if table is None:
        return [BAD_FORM]
    session.tables.append(table)
    return [len(session.tables) - 1]


def begin(session):
    """Begins the work if it hasn't begun; whether the image now is ready for it."""
    image = image_now(session)
    if not are_ready(image.blocks):
        return False
    session.worked = image
    return True


def do_fold(session):
    if not begin(session):
        return [NOT_READY]
    return [0, fold(session.worked, session.tables)]


def do_decide(session):
    if not begin(session):
        return [NOT_READY]
    return [0, decide(session.worked, session.tables)]


def do_short(session):
    if not begin(session):
        return [NOT_READY]
    return [0, short(session.worked, session.tables)]


def do_drop(session):
    if not begin(session):
        return [NOT_READY]
    return [0, drop(session.worked, session.tables)]


def do_pass(session):
    if not begin(session):
        return [NOT_READY]
    answer = [0]
    answer.append(fold(session.worked, session.tables))
    answer.append(decide(session.worked, session.tables))
    answer.append(short(session.worked, session.tables))
    answer.append(drop(session.worked, session.tables))
    return answer


def do_again(session):
    session.worked = None
    return [0]


def do_clear(session):
    session.tables = []
    session.told = []
    session.worked = None
    return [0]


def refusal_of(blocks, i):
    """The refusal of a question about block i; None if there is none."""
    if not are_ready(blocks):
        return NOT_READY
    if i < 0 or i >= len(blocks):
        return NO_BLOCK
    return None


def listed(row):
    return [len(row)] + list(row)


def look(session, i):
    blocks = image_now(session).blocks
    refusal = refusal_of(blocks, i)
    if refusal is not None:
        return [refusal]
    return [blocks[i].kind] + listed(blocks[i].numbers) + listed(blocks[i].code)


def size(session):
    blocks = image_now(session).blocks
    if not are_ready(blocks):
        return [NOT_READY]
    ways = Ways(blocks, session.tables)
    frozen = 1 if is_frozen(ways, live_marks(ways)) else 0
    return [len(blocks), len(session.told), len(session.tables), frozen]


def leads(session, i):
    blocks = image_now(session).blocks
    refusal = refusal_of(blocks, i)
    if refusal is not None:
        return [refusal]
    ways = Ways(blocks, session.tables)
    return [ways.ends[i]] + listed(trail(ways.steps, i))
