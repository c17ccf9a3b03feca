"""The calls dominators and circle: what lies on every way to a block, and what lies in one circle with it."""

import unittest

from helper import (
    AGAIN, CLEAR, DECIDE, DROP, FOLD, PASS, SHORT, back, block, call, choose, circle, create, dominators, end, go, hold,
    last, listed, match, number, plain, run, table, wait, when,
)

ONE = number(1)
ZERO = number(0)
READS = [1, 0]

# Two ways from 1 to 5: by 2 and by 4; then one on to 6.
DIAMOND = [create(), when(4, READS), plain(), go(5), plain(), plain(), end()]


def fork(label):
    """A block that goes on, and has a label."""
    return block(15, [0, label])


class Dominators(unittest.TestCase):
    def of(self, i, *calls):
        return last(*calls, dominators(i))

    def all_of(self, *told):
        found = run(*told, *[dominators(i) for i in range(len(told))])[len(told):]
        for row in found:
            self.assertEqual(row[0], len(row) - 1)
        return [row[1:] for row in found]

    def test_a_chain(self):
        self.assertEqual(self.all_of(create(), plain(), end()), [[0], [0, 1], [0, 1, 2]])

    def test_rising_whatever_the_order_of_the_way(self):
        told = [end(), go(0), plain(), go(1), create(), go(2)]
        self.assertEqual(self.of(0, *told), listed(0, 1, 2, 3, 4, 5))
        self.assertEqual(self.of(3, *told), listed(2, 3, 4, 5))

    def test_two_ways(self):
        self.assertEqual(self.all_of(*DIAMOND), [[0], [0, 1], [0, 1, 2], [0, 1, 2, 3], [0, 1, 4], [0, 1, 5], [0, 1, 5, 6]])

    def test_ways_one_behind_another(self):
        told = [create(), fork(3), plain(), fork(5), plain(), fork(7), plain(), end()]
        self.assertEqual(self.of(7, *told), listed(0, 1, 3, 5, 7))
        self.assertEqual(self.of(6, *told), listed(0, 1, 3, 5, 6))

    def test_ways_across(self):
        # 1 to 3 goes round 2; 2 to 4 goes round 3; so neither is on every way to 4.
        told = [create(), fork(3), fork(4), plain(), end()]
        self.assertEqual(self.of(4, *told), listed(0, 1, 4))
        # The long way round goes back before it goes on.
        told = [create(), fork(5), plain(), plain(), end(), go(2)]
        self.assertEqual(self.of(4, *told), listed(0, 1, 2, 3, 4))
        told = [create(), fork(5), plain(), plain(), end(), fork(3), go(2)]
        self.assertEqual(self.of(4, *told), listed(0, 1, 3, 4))

    def test_more_than_one_create(self):
        told = [create(), go(4), create(), plain(), plain(), end()]
        self.assertEqual(self.all_of(*told), [[0], [0, 1], [2], [2, 3], [4], [4, 5]])
        told = [create(), end(), create(), go(5), create(), end()]
        self.assertEqual(self.all_of(*told), [[0], [0, 1], [2], [2, 3], [4], [5]])

    def test_a_create_on_the_way_of_another(self):
        told = [create(), plain(), create(), plain(), end()]
        self.assertEqual(self.all_of(*told), [[0], [0, 1], [2], [2, 3], [2, 3, 4]])

    def test_a_create_that_makes_nothing_is_no_beginning(self):
        self.assertEqual(self.all_of(create(), plain(), create(0), end()), [[0], [0, 1], [0, 1, 2], [0, 1, 2, 3]])
        self.assertEqual(self.all_of(create(-1), plain(), create(), end()), [[], [], [2], [2, 3]])

    def test_blocks_that_aren_t_live(self):
        self.assertEqual(self.of(2, create(), end(), end()), [0])
        self.assertEqual(self.of(0, create(0)), [0])
        self.assertEqual(self.of(2, create(), wait(ZERO), end()), [0])
        self.assertEqual(self.of(2, create(), when(3, ZERO), plain(), end()), [0])

    def test_a_block_that_isn_t_live_is_no_way(self):
        self.assertEqual(self.of(3, create(), plain(), plain(), end(), go(3)), listed(0, 1, 2, 3))

    def test_constant_blocks(self):
        self.assertEqual(self.of(3, create(), when(3, ZERO), plain(), end()), listed(0, 1, 3))
        self.assertEqual(self.of(3, create(), when(3, ONE), plain(), end()), listed(0, 1, 2, 3))
        self.assertEqual(self.of(3, create(), when(3, READS), plain(), end()), listed(0, 1, 3))

    def test_rounds(self):
        told = [create(), plain(), plain(), when(1, READS), end()]
        self.assertEqual(self.all_of(*told), [[0], [0, 1], [0, 1, 2], [0, 1, 2, 3], [0, 1, 2, 3, 4]])
        self.assertEqual(self.of(1, create(), go(1)), listed(0, 1))
        # Back to the create itself.
        self.assertEqual(self.of(0, create(), plain(), go(0)), listed(0))

    def test_a_round_entered_in_two_places(self):
        told = [create(), fork(3), plain(), plain(), when(2, READS), end()]
        self.assertEqual(self.of(2, *told), listed(0, 1, 2))
        self.assertEqual(self.of(5, *told), listed(0, 1, 3, 4, 5))

    def test_a_back(self):
        told = [create(), plain(), back(), plain(), end()]
        self.assertEqual(self.all_of(*told), [[0], [0, 1], [0, 1, 2], [0, 1, 2, 3], [0, 1, 2, 4]])
        self.assertEqual(self.all_of(create(), fork(3), plain(), back()), [[0], [0, 1], [0, 1, 2], [0, 1, 3]])

    def test_a_call_a_choose_and_a_match(self):
        self.assertEqual(self.of(3, create(), call(3), plain(), end()), listed(0, 1, 3))
        self.assertEqual(self.of(5, create(), choose(2, 4, 5), go(5), plain(), go(5), end()), listed(0, 1, 5))
        self.assertEqual(self.of(4, create(), match(3), plain(), plain(), end()), listed(0, 1, 3, 4))

    def test_200_blocks(self):
        chain = [create()] + [plain()] * 198 + [end()]
        self.assertEqual(self.of(199, *chain), listed(*range(200)))
        forks = [create()] + [fork(min(i + 2, 199)) for i in range(1, 199)] + [end()]
        self.assertEqual(self.of(199, *forks), listed(0, 1, 199))
        self.assertEqual(self.of(0, *[create()] * 200), listed(0))
        turned = [end()] + [go(i - 1) for i in range(1, 198)] + [create(), go(197)]
        self.assertEqual(self.of(0, *turned), listed(*range(200)))
        backs = [create()] + [back()] * 199
        found = run(*backs, *[dominators(i) for i in range(200)])[200:]
        self.assertEqual(found, [listed(0), listed(0, 1)] + [listed(0, 1, i) for i in range(2, 200)])

    def test_behind_work(self):
        told = [end(), create(), wait(ONE + ONE + [4, 0]), when(6, ZERO), end(), end(), go(7), plain(), end()]
        self.assertEqual(self.of(8, *told), listed(1, 2, 3, 6, 7, 8))
        self.assertEqual(self.of(8, *told, FOLD), listed(1, 2, 3, 6, 7, 8))
        self.assertEqual(self.of(8, *told, DECIDE), listed(1, 2, 3, 6, 7, 8))
        self.assertEqual(self.of(8, *told, SHORT), listed(1, 2, 3, 7, 8))
        self.assertEqual(self.of(2, *told, DROP), listed(0, 1, 2))
        self.assertEqual(self.of(2, *told, PASS), listed(0, 1, 2))
        self.assertEqual(self.of(8, *told, PASS), [-6])
        self.assertEqual(self.of(8, *told, PASS, AGAIN), listed(1, 2, 3, 6, 7, 8))
        self.assertEqual(self.of(0, *told, PASS, CLEAR, create()), listed(0))

    def test_by_a_table(self):
        told = [create(), when(3, ONE + [7, 0]), plain(), end()]
        self.assertEqual(self.of(3, *told), listed(0, 1, 3))
        self.assertEqual(self.of(3, *told, table(2, [], [5, 1])), listed(0, 1, 2, 3))


class Circle(unittest.TestCase):
    def of(self, i, *calls):
        return last(*calls, circle(i))

    def all_of(self, *told):
        return [row[1:] for row in run(*told, *[circle(i) for i in range(len(told))])[len(told):]]

    def test_a_block_alone(self):
        self.assertEqual(self.of(0, create()), listed(0))
        self.assertEqual(self.all_of(create(), plain(), end()), [[0], [1], [2]])

    def test_a_block_that_leads_to_itself(self):
        self.assertEqual(self.of(1, create(), go(1)), listed(1))

    def test_a_round(self):
        told = [create(), plain(), plain(), when(1, READS), end()]
        self.assertEqual(self.all_of(*told), [[0], [1, 2, 3], [1, 2, 3], [1, 2, 3], [4]])

    def test_rising_with_i_in_its_row(self):
        told = [go(2), end(), go(4), end(), go(0)]
        self.assertEqual(self.all_of(*told), [[0, 2, 4], [1], [0, 2, 4], [3], [0, 2, 4]])

    def test_there_but_not_back(self):
        told = [create(), fork(4), plain(), go(2), end()]
        self.assertEqual(self.all_of(*told), [[0], [1], [2, 3], [2, 3], [4]])

    def test_two_rounds_that_meet_are_one(self):
        told = [create(), plain(), when(1, READS), plain(), when(2, READS), end()]
        self.assertEqual(self.of(4, *told), listed(1, 2, 3, 4))

    def test_a_round_within_a_round(self):
        told = [plain(), plain(), when(1, READS), when(0, READS), end()]
        self.assertEqual(self.of(1, *told), listed(0, 1, 2, 3))

    def test_rounds_one_behind_another_stay_apart(self):
        told = [plain(), when(0, READS), plain(), when(2, READS)]
        self.assertEqual(self.all_of(*told), [[0, 1], [0, 1], [2, 3], [2, 3]])

    def test_blocks_that_aren_t_live(self):
        self.assertEqual(self.of(3, create(), end(), plain(), go(2)), listed(2, 3))

    def test_what_constant_codes_cut(self):
        self.assertEqual(self.of(0, plain(), when(0, ONE), end()), listed(0))
        self.assertEqual(self.of(0, plain(), when(0, ZERO), end()), listed(0, 1))
        self.assertEqual(self.of(0, plain(), wait(ZERO), go(0)), listed(0))
        self.assertEqual(self.of(0, plain(), wait(READS), go(0)), listed(0, 1, 2))
        self.assertEqual(self.of(0, plain(), hold(ONE), go(0)), listed(0, 1, 2))
        self.assertEqual(self.of(0, plain(), plain()), listed(0))

    def test_a_back(self):
        self.assertEqual(self.all_of(create(), back(), plain(), end()), [[0, 1], [0, 1], [2], [3]])
        self.assertEqual(self.of(2, create(), plain(), plain(), back(), plain()), listed(0, 1, 2, 3))

    def test_200_blocks(self):
        chain = [go(i + 1) for i in range(199)]
        self.assertEqual(self.of(77, *chain, go(0)), listed(*range(200)))
        self.assertEqual(self.of(77, *chain, end()), listed(77))
        self.assertEqual(self.of(199, *chain, go(100)), listed(*range(100, 200)))
        self.assertEqual(self.of(5, *[back()] * 200), listed(*range(200)))

    def test_behind_work(self):
        told = [end(), create(), plain(), wait(ONE + ONE + [4, 0]), when(6, ZERO), end(), go(2), go(6)]
        for work in ([], [FOLD], [DECIDE]):
            self.assertEqual(self.of(3, *told, *work), listed(2, 3, 4, 6))
        self.assertEqual(self.of(3, *told, SHORT), listed(2, 3, 4))
        self.assertEqual(self.of(1, *told, SHORT, DROP), listed(1, 2, 3))
        self.assertEqual(self.of(0, *told, PASS), listed(0))
        self.assertEqual(self.of(3, *told, PASS, AGAIN), listed(2, 3, 4, 6))
        self.assertEqual(self.of(0, *told, PASS, CLEAR, go(1), go(0)), listed(0, 1))


if __name__ == "__main__":
    unittest.main()
