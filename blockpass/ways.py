"""The ways through the blocks: where they lead, what may come next, what is live, frozen and idle, what stays."""

from blockpass.blocks import labels_of
from blockpass.folding import constant_worth
from blockpass.kinds import BACK, CALL, CREATE, GO, HOLD, IF, MATCH, WAIT, goes_on
from blockpass.ratio import ONE, ZERO, is_less


# The blocks of a ready image; of each what its code is worth, what it leads on to if it only leads on, and where it
# leads at last.
class Ways:
    def __init__(self, blocks, tables):
        self.blocks = blocks
        self.worths = [worth_that_leads(block, tables) for block in blocks]
        self.steps = [step(i, blocks[i], self.worths[i]) for i in range(len(blocks))]
        self.ends = ends_of(self.steps)


def worth_that_leads(block, tables):
    """What the code is worth, of the kinds where that decides the way; None if it isn't constant."""
    if block.kind in (HOLD, IF, WAIT):
        return constant_worth(block.code, tables)
    return None


def step(i, block, number):
    """What block i leads on to, its code being worth the number; None if it doesn't only lead on."""
    if block.kind == GO:
        return block.numbers[0]
    if number is None:
        return None
    if block.kind == IF:
        return block.numbers[0] if number == ZERO else i + 1
    if block.kind == WAIT:
        return None if number == ZERO else i + 1
    if is_less(number, ZERO) or not is_less(number, ONE):
        return None
    return i + 1


def moves_on(steps, i):
    """Whether block i only leads on, and not behind the end."""
    return steps[i] is not None and steps[i] < len(steps)


def far_ahead(steps):
    """Of each block the one to which n steps or more bring, or the one where they end."""
    n = len(steps)
    reached = [steps[i] if moves_on(steps, i) else i for i in range(n)]
    gone = 1
    while gone < n:
        reached = [reached[j] for j in reached]
        gone = gone + gone
    return reached


def ends_of(steps):
    """Of each block the one to which it leads."""
    # What still moves on behind n steps has come round: it never ends.
    return [i if moves_on(steps, far) else far for i, far in enumerate(far_ahead(steps))]


def ring_blocks(steps):
    """The blocks to which one comes back by going on from them, rising."""
    # Whatever moves on far ahead is in a ring; and each of a ring's blocks is far ahead of another one of it.
    return sorted(set([far for far in far_ahead(steps) if moves_on(steps, far)]))


def trail(steps, i):
    """The blocks gone through from i on, as many as there are blocks at most."""
    gone = [i]
    while len(gone) < len(steps) and moves_on(steps, gone[-1]):
        gone.append(steps[gone[-1]])
    return gone


def nexts(ways, i):
    """What may come next of block i; a block may stand there more than once."""
    n = len(ways.blocks)
    block = ways.blocks[i]
    if ways.steps[i] is not None:
        found = [ways.steps[i]]
    elif block.kind == WAIT and ways.worths[i] is not None:
        # A constant wait that doesn't only lead on is worth 0.
        found = []
    elif block.kind == BACK:
        found = list(range(n))
    else:
        found = labels_of(block)
        if goes_on(block.kind):
            found.append(i + 1)
    return [j for j in found if j < n]


def all_nexts(ways):
    """For each block what may come next of it."""
    return [nexts(ways, i) for i in range(len(ways.blocks))]


def reached_marks(forward, begins):
    """For each block whether one comes to it from those to begin with; these are among them."""
    marks = [False for row in forward]
    for i in begins:
        marks[i] = True
    waiting = list(begins)
    while len(waiting) > 0:
        i = waiting.pop()
        for j in forward[i]:
            if not marks[j]:
                marks[j] = True
                waiting.append(j)
    return marks


def sources(blocks):
    """The creates whose fourth number is above 0, rising."""
    return [i for i, block in enumerate(blocks) if block.kind == CREATE and block.numbers[3] > 0]


def live_marks(ways):
    """For each block whether it is live."""
    return reached_marks(all_nexts(ways), sources(ways.blocks))


def is_frozen(ways, live):
    return any([mark and block.kind in (CALL, BACK) for block, mark in zip(ways.blocks, live)])


def match_marks(ways, live):
    """For each block whether a live match has it as its label."""
    marks = [False for mark in live]
    for block, mark in zip(ways.blocks, live):
        if mark and block.kind == MATCH:
            marks[block.numbers[0]] = True
    return marks


def idle_marks(ways, live):
    """For each block whether it is idle."""
    matched = match_marks(ways, live)
    idle = [False for mark in live]
    for i in range(len(live) - 1, -1, -1):
        # A block that doesn't only lead on leads to itself, and so to none of a greater number.
        end = ways.ends[i]
        between = [live[j] and not idle[j] for j in range(i + 1, end)]
        idle[i] = live[i] and end > i and not matched[i] and not any(between)
    return idle


def stay_marks(ways, live):
    """For each block whether it stays."""
    if not any(live) or is_frozen(ways, live):
        return [True for mark in live]
    idle = idle_marks(ways, live)
    return [live[i] and not idle[i] for i in range(len(live))]
