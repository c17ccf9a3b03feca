"""The work on an image: fold, decide, short, drop; each answers how much has changed."""

from blockpass.blocks import go_to, labels_of, with_code, with_labels
from blockpass.folding import folded
from blockpass.kinds import GO, MATCH
from blockpass.ways import Ways, live_marks, moves_on, stay_marks


# Blocks; of each told block the place, None if it has none; of each block now the origin.
class Image:
    def __init__(self, told):
        self.blocks = list(told)
        self.places = list(range(len(told)))
        self.origins = list(range(len(told)))


def fold(image, tables):
    changed = 0
    blocks = []
    for block in image.blocks:
        code = folded(block.code, tables)
        if code != block.code:
            changed = changed + 1
        blocks.append(with_code(block, code))
    image.blocks = blocks
    return changed


def decide(image, tables):
    ways = Ways(image.blocks, tables)
    changed = 0
    blocks = []
    for i, block in enumerate(ways.blocks):
        if moves_on(ways.steps, i) and block.kind != GO:
            changed = changed + 1
            blocks.append(go_to(ways.steps[i]))
        else:
            blocks.append(block)
    image.blocks = blocks
    return changed


def short_labels(block, ends):
    if block.kind == MATCH:
        return labels_of(block)
    return [ends[label] for label in labels_of(block)]


def short(image, tables):
    ends = Ways(image.blocks, tables).ends
    changed = 0
    blocks = []
    for block in image.blocks:
        labels = short_labels(block, ends)
        changed = changed + sum([1 for old, new in zip(labels_of(block), labels) if old != new])
        blocks.append(with_labels(block, labels))
    image.blocks = blocks
    image.places = [None if place is None else ends[place] for place in image.places]
    return changed


def new_numbers(stays):
    """For each block its number when those that don't stay are taken out; None of these."""
    numbers = []
    count = 0
    for mark in stays:
        if mark:
            numbers.append(count)
            count = count + 1
        else:
            numbers.append(None)
    return numbers


def renumbered_labels(i, block, ends, numbers):
    if block.kind == MATCH:
        return [numbers[label] for label in labels_of(block)]
    found = [numbers[ends[label]] for label in labels_of(block)]
    return [numbers[i] if number is None else number for number in found]


def renumbered_place(place, live, ends, numbers):
    if place is None or not live[place]:
        return None
    return numbers[ends[place]]


def drop(image, tables):
    ways = Ways(image.blocks, tables)
    live = live_marks(ways)
    stays = stay_marks(ways, live)
    if all(stays):
        return 0
    numbers = new_numbers(stays)
    blocks = []
    for i, block in enumerate(ways.blocks):
        if stays[i]:
            blocks.append(with_labels(block, renumbered_labels(i, block, ways.ends, numbers)))
    image.blocks = blocks
    image.origins = [origin for origin, mark in zip(image.origins, stays) if mark]
    image.places = [renumbered_place(place, live, ways.ends, numbers) for place in image.places]
    return len(stays) - len(blocks)
