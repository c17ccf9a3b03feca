"""What may come next again and again: the blocks in one circle, and those that every way goes through."""

from blockpass.ways import all_nexts, reached_marks, sources


def turned_round(forward):
    """For each block those of which it may come next."""
    rows = [[] for row in forward]
    for i, row in enumerate(forward):
        for j in row:
            rows[j].append(i)
    return rows


def circle(ways, i):
    """Block i and those to which one comes from it and from which one comes to it, rising."""
    forward = all_nexts(ways)
    there = reached_marks(forward, [i])
    back = reached_marks(turned_round(forward), [i])
    return [j for j in range(len(forward)) if there[j] and back[j]]


def come_from(forward, begins, i):
    """For each block that is found, up to i, the one from which it was found; None of those to begin with."""
    found = {}
    for j in begins:
        found[j] = None
    waiting = list(begins)
    while len(waiting) > 0 and i not in found:
        j = waiting.pop()
        for k in forward[j]:
            if k not in found:
                found[k] = j
                waiting.append(k)
    return found


def way_to(forward, begins, i):
    """The blocks of one way to i, in order, each once; none if there is no way."""
    found = come_from(forward, begins, i)
    way = []
    at = i if i in found else None
    while at is not None:
        way.append(at)
        at = found[at]
    way.reverse()
    return way


def never_gone_round(forward, begins, way):
    """The blocks of the way through which every way from those to begin with to its last block goes."""
    indexes = {}
    for k, block in enumerate(way):
        indexes[block] = k
    seen = {}
    furthest = 0
    waiting = list(begins)
    kept = []
    for k, block in enumerate(way):
        # All that one comes to without block k, and without those behind it on the way, is gone through: if none
        # of those behind it has been met on that, nothing goes round block k.
        while len(waiting) > 0:
            j = waiting.pop()
            if j in indexes:
                furthest = max(furthest, indexes[j])
            elif j not in seen:
                seen[j] = True
                waiting.extend(forward[j])
        if furthest == k:
            kept.append(block)
        waiting.extend(forward[block])
    return kept


def dominators(ways, i):
    """The blocks through which every way to block i goes, rising; none if it isn't live."""
    forward = all_nexts(ways)
    begins = sources(ways.blocks)
    # What every way goes through, one way does: any one will do to find them on.
    return sorted(never_gone_round(forward, begins, way_to(forward, begins, i)))
