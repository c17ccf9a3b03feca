"""Blocks: how one is told, and its labels. A block is never changed: another one takes its place."""

from blockpass.kinds import GO, count_fits, has_code, is_kind, label_indexes
from blockpass.ratio import in_range

MOST_BLOCKS = 200


class Block:
    def __init__(self, kind, numbers, code):
        self.kind = kind
        self.numbers = numbers
        self.code = code


def is_label(n):
    return 0 <= n < MOST_BLOCKS


def is_block_form(kind, numbers, code):
    """Whether kind and numbers are as told, and the code is empty where the kind has none."""
    if not is_kind(kind) or not count_fits(kind, len(numbers)):
        return False
    if len(code) > 0 and not has_code(kind):
        return False
    labels = [numbers[k] for k in label_indexes(kind, len(numbers))]
    return all([in_range(n) for n in numbers]) and all([is_label(n) for n in labels])


def labels_of(block):
    return [block.numbers[k] for k in label_indexes(block.kind, len(block.numbers))]


def with_labels(block, labels):
    """The block with other labels, as many, in the same order."""
    numbers = list(block.numbers)
    indexes = label_indexes(block.kind, len(block.numbers))
    for k, label in zip(indexes, labels):
        numbers[k] = label
    return Block(block.kind, numbers, block.code)


def with_code(block, code):
    return Block(block.kind, block.numbers, code)


def go_to(label):
    return Block(GO, [label], [])


def are_ready(blocks):
    if len(blocks) == 0:
        return False
    for block in blocks:
        if any([label >= len(blocks) for label in labels_of(block)]):
            return False
    return True
