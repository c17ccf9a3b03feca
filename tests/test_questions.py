"""The calls look, size and leads; leading on, what is live, frozen and idle, and what stays."""

import unittest

from blockpass.blocks import Block
from blockpass.ways import Ways, idle_marks, live_marks, nexts, stay_marks
from helper import (
    BIG, CLEAR, DECIDE, DROP, EXPECTED_KINDS, SIZE, back, block, call, choose, create, end, go, hold, last, leads, look,
    match, number, plain, run, shown, table, wait, when,
)

ONE = number(1)
ZERO = number(0)
HALF = number(1, 2)
READS = [1, 0]


def ways_of(*told):
    """The ways of what the calls of block tell."""
    blocks = []
    for one in told:
        count = one[2]
        blocks.append(Block(one[1], one[3:3 + count], one[4 + count:]))
    return Ways(blocks, [])


def marked(marks):
    return [i for i, mark in enumerate(marks) if mark]


def live(*told):
    return marked(live_marks(ways_of(*told)))


def idle(*told):
    ways = ways_of(*told)
    return marked(idle_marks(ways, live_marks(ways)))


def stays(*told):
    ways = ways_of(*told)
    return marked(stay_marks(ways, live_marks(ways)))


def frozen(*told):
    return last(*told, SIZE)[3]


class Refusals(unittest.TestCase):
    def test_an_image_that_isn_t_ready(self):
        for told in ([], [go(1)], [create(), create(), choose(0, 1, 3)], [match(1)], [create(), CLEAR]):
            for question in (look(0), SIZE, leads(0), look(-1), leads(99)):
                self.assertEqual(last(*told, question), [-5])

    def test_no_such_block(self):
        for i in (-1, 2, 3, 200, BIG, -BIG):
            self.assertEqual(last(create(), create(), look(i)), [-6])
            self.assertEqual(last(create(), create(), leads(i)), [-6])

    def test_it_is_the_image_now_that_counts(self):
        told = [create(), end(), end()]
        self.assertEqual(last(*told, look(2)), shown(17, [0]))
        self.assertEqual(last(*told, DROP, look(2)), [-6])
        self.assertEqual(last(*told, DROP, leads(2)), [-6])
        self.assertEqual(last(*told, DROP, look(1)), shown(17, [0]))


class Size(unittest.TestCase):
    def test_counts(self):
        told = [create(), table(2, [], [1, 1]), end(), end(), table(2, [], [1, 1])]
        self.assertEqual(last(*told, SIZE), [3, 3, 2, 0])
        self.assertEqual(last(*told, DROP, SIZE), [2, 3, 2, 0])

    def test_frozen(self):
        self.assertEqual(frozen(create(), call(0)), 1)
        self.assertEqual(frozen(create(), back()), 1)
        self.assertEqual(frozen(create(), plain(), back()), 1)
        self.assertEqual(frozen(create(), end()), 0)

    def test_a_call_or_back_that_isn_t_live_doesn_t_freeze(self):
        self.assertEqual(frozen(create(), end(), call(0), back()), 0)
        self.assertEqual(frozen(create(0), back()), 0)
        self.assertEqual(frozen(create(), wait(ZERO), back()), 0)
        self.assertEqual(frozen(create(), when(3, ZERO), back(), end()), 0)
        self.assertEqual(frozen(create(), when(3, ONE), end(), back()), 0)

    def test_frozen_now(self):
        told = [create(), block(15, [0, 3]), end(), go(4), call(0)]
        self.assertEqual(run(*told, SIZE, DECIDE, DROP, SIZE)[5:], [[5, 5, 0, 1], [0, 0], [0, 0], [5, 5, 0, 1]])


class Leads(unittest.TestCase):
    def answer(self, i, *told):
        return last(*told, leads(i))

    def test_a_block_that_doesn_t_only_lead_on(self):
        self.assertEqual(self.answer(0, create()), [0, 1, 0])
        self.assertEqual(self.answer(1, create(), plain(), end()), [1, 1, 1])

    def test_each_kind(self):
        for kind, form in EXPECTED_KINDS.items():
            for code in ([], ONE, ZERO) if form[2] else ([],):
                with self.subTest(kind=kind, code=code):
                    numbers = [0] * form[0][0]
                    due = [0, 1, 0]
                    if kind in (3, 4) and (kind == 3 or code == ZERO):
                        numbers[0] = 1
                        due = [1, 2, 0, 1]
                    elif kind in (4, 5) and code == ONE or kind == 1 and code == ZERO:
                        due = [1, 2, 0, 1]
                    self.assertEqual(self.answer(0, block(kind, numbers, code), end()), due)

    def test_a_go(self):
        self.assertEqual(self.answer(0, go(2), plain(), end()), [2, 2, 0, 2])
        self.assertEqual(self.answer(2, end(), plain(), go(0)), [0, 2, 2, 0])

    def test_an_if(self):
        self.assertEqual(self.answer(0, when(2, ZERO), plain(), end()), [2, 2, 0, 2])
        for code in (ONE, HALF, number(-1)):
            self.assertEqual(self.answer(0, when(2, code), plain(), end()), [1, 2, 0, 1])
        for code in (READS, [], number(1) + ZERO + [4, 3]):
            self.assertEqual(self.answer(0, when(2, code), plain(), end()), [0, 1, 0])

    def test_a_wait(self):
        for code in (ONE, HALF, number(-1)):
            self.assertEqual(self.answer(0, wait(code), end()), [1, 2, 0, 1])
        for code in (ZERO, READS, []):
            self.assertEqual(self.answer(0, wait(code), end()), [0, 1, 0])

    def test_a_hold(self):
        for code in (ZERO, HALF, number(BIG - 1, BIG), number(1, BIG)):
            self.assertEqual(self.answer(0, hold(code), end()), [1, 2, 0, 1])
        for code in (ONE, number(3, 2), number(-1), number(-1, BIG), READS, []):
            self.assertEqual(self.answer(0, hold(code), end()), [0, 1, 0])

    def test_codes_needn_t_be_folded(self):
        self.assertEqual(self.answer(0, wait(ONE + ONE + [4, 0]), end()), [1, 2, 0, 1])
        self.assertEqual(self.answer(0, wait(ONE + ONE + [4, 1]), end()), [0, 1, 0])
        self.assertEqual(self.answer(0, when(2, ONE + ONE + [4, 1]), plain(), end()), [2, 2, 0, 2])

    def test_by_a_table(self):
        told = [wait(ONE + [7, 0]), end()]
        self.assertEqual(self.answer(0, *told), [0, 1, 0])
        self.assertEqual(self.answer(0, *told, table(2, [], [5, 1])), [1, 2, 0, 1])

    def test_a_chain(self):
        told = [go(3), end(), wait(ONE), when(2, ZERO), end()]
        self.assertEqual(self.answer(0, *told), [0, 5, 0, 3, 2, 3, 2])
        told = [go(3), end(), wait(ONE), when(5, ZERO), end(), hold(ZERO), go(1)]
        self.assertEqual(self.answer(0, *told), [1, 5, 0, 3, 5, 6, 1])
        self.assertEqual(self.answer(2, *told), [1, 5, 2, 3, 5, 6, 1])

    def test_behind_the_end(self):
        for final in (wait(ONE), hold(ZERO), when(0, ONE)):
            self.assertEqual(self.answer(1, create(), final), [1, 1, 1])
            self.assertEqual(self.answer(0, go(2), end(), final), [2, 2, 0, 2])
        self.assertEqual(self.answer(0, wait(ONE)), [0, 1, 0])

    def test_a_ring(self):
        self.assertEqual(self.answer(0, go(0)), [0, 1, 0])
        told = [go(1), go(2), go(1), end()]
        self.assertEqual(self.answer(0, *told), [0, 4, 0, 1, 2, 1])
        self.assertEqual(self.answer(1, *told), [1, 4, 1, 2, 1, 2])
        self.assertEqual(self.answer(2, *told), [2, 4, 2, 1, 2, 1])
        self.assertEqual(self.answer(3, *told), [3, 1, 3])

    def test_200_blocks_in_a_chain_and_in_a_ring(self):
        chain = [go(i + 1) for i in range(199)]
        self.assertEqual(self.answer(0, *chain, end()), [199, 200] + list(range(200)))
        self.assertEqual(self.answer(198, *chain, end()), [199, 2, 198, 199])
        self.assertEqual(self.answer(0, *chain, go(0)), [0, 200] + list(range(200)))
        self.assertEqual(self.answer(7, *chain, go(0)), [7, 200] + list(range(7, 200)) + list(range(7)))
        self.assertEqual(self.answer(0, *chain, go(199)), [0, 200] + list(range(200)))
        self.assertEqual(self.answer(0, *chain, wait(ONE)), [199, 200] + list(range(200)))


class MayComeNext(unittest.TestCase):
    def of(self, i, *told):
        return sorted(set(nexts(ways_of(*told), i)))

    def test_each_kind(self):
        for kind, form in EXPECTED_KINDS.items():
            with self.subTest(kind=kind):
                numbers = [1] * form[0][-1]
                due = [3] if form[3] else []
                labels = range(2, 33, 2) if kind == 11 else form[1]
                for k in labels:
                    numbers[k] = 0 if k % 4 == 0 else 4
                    due.append(numbers[k])
                if kind == 14:
                    due = [0, 1, 2, 3, 4]
                told = [end(), end(), block(kind, numbers, READS if form[2] else []), end(), end()]
                self.assertEqual(self.of(2, *told), sorted(set(due)))

    def test_what_only_leads_on(self):
        self.assertEqual(self.of(0, when(2, ZERO), end(), end()), [2])
        self.assertEqual(self.of(0, when(2, ONE), end(), end()), [1])
        self.assertEqual(self.of(0, wait(ONE), end()), [1])
        self.assertEqual(self.of(0, hold(ZERO), end()), [1])

    def test_others(self):
        self.assertEqual(self.of(0, wait(ZERO), end()), [])
        self.assertEqual(self.of(0, wait(READS), end()), [1])
        self.assertEqual(self.of(0, wait([]), end()), [1])
        self.assertEqual(self.of(0, hold(ONE), end()), [1])
        self.assertEqual(self.of(0, hold(number(-1)), end()), [1])
        self.assertEqual(self.of(0, when(2, READS), end(), end()), [1, 2])

    def test_never_behind_the_end(self):
        for final in (create(), plain(), wait(ONE), hold(ONE), when(0, ONE), wait(READS)):
            self.assertEqual(self.of(1, end(), final), [])
        self.assertEqual(self.of(1, end(), when(0, READS)), [0])
        self.assertEqual(self.of(0, back()), [0])


class Live(unittest.TestCase):
    def test_creates(self):
        for rate in (1, BIG):
            self.assertEqual(live(create(rate), end()), [0, 1])
        for rate in (0, -1, -BIG):
            self.assertEqual(live(create(rate), end()), [])
        self.assertEqual(live(block(0, [1, 1, 1, 0, 1]), end()), [])

    def test_ways_from_them(self):
        self.assertEqual(live(end(), create(), go(4), end(), end()), [1, 2, 4])
        self.assertEqual(live(create(), choose(3, 4), plain(), end(), end()), [0, 1, 3, 4])
        self.assertEqual(live(create(), match(3), end(), end()), [0, 1, 2, 3])
        self.assertEqual(live(create(), call(3), end(), end()), [0, 1, 3])
        self.assertEqual(live(end(), create(), back(), end()), [0, 1, 2, 3])
        self.assertEqual(live(create(), wait(ZERO), end()), [0, 1])
        self.assertEqual(live(plain(), create(), go(0)), [0, 1, 2])


class Idle(unittest.TestCase):
    def test_blocks_that_lead_forward(self):
        self.assertEqual(idle(create(), wait(ONE), hold(ZERO), go(4), end()), [1, 2, 3])
        self.assertEqual(idle(create(), go(3), end(), end()), [1])

    def test_block_0(self):
        self.assertEqual(idle(wait(ONE), plain(), create(), go(0)), [0])

    def test_blocks_that_lead_back_or_to_themselves(self):
        self.assertEqual(idle(create(), plain(), go(1)), [])
        self.assertEqual(idle(create(), go(1)), [])
        self.assertEqual(idle(create(), wait(ONE)), [])
        self.assertEqual(idle(create(), go(2), go(1)), [])

    def test_a_live_block_between_that_isn_t_idle(self):
        told = [create(), block(15, [0, 3]), go(4), plain(), end()]
        self.assertEqual(idle(*told), [])
        told = [create(), block(15, [0, 3]), go(5), hold(ZERO), go(5), end()]
        self.assertEqual(idle(*told), [2, 3, 4])

    def test_blocks_that_aren_t_live(self):
        self.assertEqual(idle(create(), end(), go(3), end()), [])
        self.assertEqual(idle(create(), go(4), go(5), plain(), end(), end()), [1])

    def test_a_live_match_s_label(self):
        self.assertEqual(idle(create(), match(2), wait(ONE), end()), [])
        self.assertEqual(idle(create(), wait(ONE), end(), match(1)), [1])
        self.assertEqual(idle(create(), block(15, [0, 2]), wait(ONE), end()), [2])

    def test_one_that_is_held_holds_those_before(self):
        self.assertEqual(idle(create(), wait(ONE), match(4), wait(ONE), wait(ONE), end()), [1])
        self.assertEqual(idle(create(), match(4), go(5), end(), wait(ONE), end()), [])


class Stays(unittest.TestCase):
    def test_live_ones_that_aren_t_idle(self):
        self.assertEqual(stays(create(), wait(ONE), end(), plain()), [0, 2])

    def test_all_if_none_is_live(self):
        self.assertEqual(stays(create(0), wait(ONE), end()), [0, 1, 2])

    def test_all_if_frozen(self):
        self.assertEqual(stays(create(), wait(ONE), call(0), plain()), [0, 1, 2, 3])


if __name__ == "__main__":
    unittest.main()
