"""The questions that change nothing; each answers a list of whole numbers."""

from blockpass.blocks import are_ready
from blockpass.errors import NO_ERROR
from blockpass.folding import folded, worth
from blockpass.forms import DOMINATORS, LEADS, LIVE, LOOK, NEXT, ORIGIN, RINGS, SIZE, TOLD
from blockpass.instructions import instructions_of, is_code, reads_something
from blockpass.reach import circle, dominators
from blockpass.refusals import NO_BLOCK, NO_CODE, NO_PLACE, NOT_READY
from blockpass.session import image_now
from blockpass.ways import Ways, idle_marks, is_frozen, live_marks, nexts, ring_blocks, trail

WORTH_SOMETHING = 0
WORTH_AN_ERROR = 1
READS_SOMETHING = 2


def listed(row):
    return [len(row)] + list(row)


def marked(marks):
    return [i for i in range(len(marks)) if marks[i]]


def look(block):
    return [block.kind] + listed(block.numbers) + listed(block.code)


def about_block(session, place, i):
    """The questions about one block of the image now."""
    image = image_now(session)
    if not are_ready(image.blocks):
        return [NOT_READY]
    if i < 0 or i >= len(image.blocks):
        return [NO_BLOCK]
    if place == LOOK:
        return look(image.blocks[i])
    if place == ORIGIN:
        return [image.origins[i]]
    ways = Ways(image.blocks, session.tables)
    if place == LEADS:
        return [ways.ends[i]] + listed(trail(ways.steps, i))
    if place == NEXT:
        return listed(sorted(set(nexts(ways, i))))
    if place == DOMINATORS:
        return listed(dominators(ways, i))
    return listed(circle(ways, i))


def size(session, ways):
    frozen = 1 if is_frozen(ways, live_marks(ways)) else 0
    return [len(ways.blocks), len(session.told), len(session.tables), frozen]


def told_blocks(blocks):
    answer = [len(blocks)]
    for block in blocks:
        answer.extend(look(block))
    return answer


def about_image(session, place):
    """The questions about the whole image now."""
    blocks = image_now(session).blocks
    if not are_ready(blocks):
        return [NOT_READY]
    if place == TOLD:
        return told_blocks(blocks)
    ways = Ways(blocks, session.tables)
    if place == SIZE:
        return size(session, ways)
    if place == RINGS:
        return listed(ring_blocks(ways.steps))
    live = live_marks(ways)
    if place == LIVE:
        return listed(marked(live))
    return listed(marked(idle_marks(ways, live)))


def place_of(session, i):
    """The place of a told block."""
    image = image_now(session)
    if not are_ready(image.blocks):
        return [NOT_READY]
    if i < 0 or i >= len(image.places):
        return [NO_BLOCK]
    if image.places[i] is None:
        return [NO_PLACE]
    return [image.places[i]]


def worth_of(session, code):
    if not is_code(code):
        return [NO_CODE]
    instructions = instructions_of(code)
    if reads_something(instructions):
        return [READS_SOMETHING]
    found = worth(instructions, session.tables)
    if found[0] != NO_ERROR:
        return [WORTH_AN_ERROR, found[0]]
    return [WORTH_SOMETHING, found[1][0], found[1][1]]


def folded_code(session, code):
    if not is_code(code):
        return [NO_CODE]
    return listed(folded(code, session.tables))
