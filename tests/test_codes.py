"""The calls worth and folded: what a code is worth, its errors, tables, and a code folded."""

import unittest
from fractions import Fraction

from helper import (
    AGAIN, BIG, CLEAR, FOLD, PASS, block, create, end, folded, go, last, leads, look, number, run, shown, table, wait,
    worth,
)

X = number(7, 3)
TWO = number(2)


def worth_of(code, tables=()):
    """What worth answers behind the telling of the tables."""
    return last(*tables, worth(code))


def fold_of(code, tables=()):
    """The code folded, as the calls answer it."""
    return last(create(), *tables, block(8, [], code), FOLD, look(1))[3:]


class Worth(unittest.TestCase):
    def gives(self, code, n, d=1, tables=()):
        self.assertEqual(worth_of(code, tables), [0, n, d], code)

    def fails(self, code, error, tables=()):
        self.assertEqual(worth_of(code, tables), [1, error], code)

    def of_one(self, o, n, d, *due):
        self.gives(number(n, d) + [3, o], *due)

    def of_two(self, o, a, b, *due):
        self.gives(number(*a) + number(*b) + [4, o], *due)

    def test_a_number(self):
        self.gives(number(-7, 3), -7, 3)

    def test_of_one_number(self):
        self.of_one(0, 7, 3, -7, 3)
        self.of_one(0, -7, 3, 7, 3)
        self.of_one(0, 0, 1, 0)
        self.of_one(1, 0, 1, 1)
        self.of_one(1, 7, 3, 0)
        self.of_one(1, -1, 1, 0)
        self.of_one(2, 7, 3, 2)
        self.of_one(2, -7, 3, -3)
        self.of_one(2, -2, 1, -2)
        self.of_one(3, 7, 3, 3)
        self.of_one(3, -7, 3, -2)
        self.of_one(3, 2, 1, 2)
        self.of_one(4, -7, 3, 7, 3)
        self.of_one(4, 7, 3, 7, 3)
        self.of_one(5, -7, 3, -1)
        self.of_one(5, 0, 1, 0)
        self.of_one(5, 1, 3, 1)
        self.of_one(6, -7, 3, -7)
        self.of_one(7, -7, 3, 3)
        self.of_one(7, 0, 1, 1)

    def test_of_two_numbers(self):
        self.of_two(0, (1, 2), (1, 3), 5, 6)
        self.of_two(0, (1, 2), (1, 2), 1)
        self.of_two(1, (1, 2), (1, 3), 1, 6)
        self.of_two(1, (1, 3), (1, 2), -1, 6)
        self.of_two(2, (2, 3), (3, 4), 1, 2)
        self.of_two(3, (1, 2), (-3, 4), -2, 3)
        self.of_two(3, (0, 1), (-3, 4), 0)
        self.of_two(4, (7, 1), (2, 1), 3)
        self.of_two(4, (-7, 1), (2, 1), -4)
        self.of_two(4, (7, 1), (-2, 1), -4)
        self.of_two(4, (7, 2), (1, 3), 10)
        self.of_two(5, (7, 1), (2, 1), 1)
        self.of_two(5, (-7, 1), (2, 1), 1)
        self.of_two(5, (7, 1), (-2, 1), -1)
        self.of_two(5, (7, 2), (1, 3), 1, 6)

    def test_comparisons(self):
        for a, b in (((1, 3), (1, 2)), ((1, 2), (1, 3)), ((1, 2), (1, 2)), ((-1, 2), (1, 3)), ((-1, 2), (-1, 3))):
            x = Fraction(*a)
            y = Fraction(*b)
            for o, due in ((7, x == y), (8, x != y), (9, x < y), (10, x <= y), (11, x > y), (12, x >= y)):
                self.of_two(o, a, b, int(due))

    def test_powers(self):
        self.of_two(6, (2, 3), (3, 1), 8, 27)
        self.of_two(6, (2, 3), (-3, 1), 27, 8)
        self.of_two(6, (-2, 3), (-3, 1), -27, 8)
        self.of_two(6, (-2, 3), (-1, 1), -3, 2)
        self.of_two(6, (-2, 3), (1, 1), -2, 3)
        self.of_two(6, (0, 1), (0, 1), 1)
        self.of_two(6, (-5, 1), (0, 1), 1)
        self.of_two(6, (0, 1), (5, 1), 0)
        self.of_two(6, (10, 1), (18, 1), BIG)
        self.of_two(6, (10, 1), (-18, 1), 1, BIG)
        self.of_two(6, (-10, 1), (18, 1), BIG)
        self.of_two(6, (1, 1), (64, 1), 1)
        self.of_two(6, (-1, 1), (-64, 1), 1)
        self.of_two(6, (-1, 1), (-63, 1), -1)
        self.of_two(6, (0, 1), (64, 1), 0)

    def test_errors_of_powers(self):
        for n, d in ((65, 1), (-65, 1), (1, 2), (-1, 2), (BIG, 1), (129, 2)):
            for a in (number(1), number(0), number(2)):
                self.fails(a + number(n, d) + [4, 6], 3)
        for n in (-1, -64):
            self.fails(number(0) + number(n) + [4, 6], 2)
        self.fails(number(10) + number(19) + [4, 6], 1)
        self.fails(number(10) + number(-19) + [4, 6], 1)
        self.fails(number(2) + number(64) + [4, 6], 1)
        self.fails(number(1, 2) + number(-64) + [4, 6], 1)
        self.fails(number(BIG) + number(64) + [4, 6], 1)

    def test_small_and_not_small(self):
        self.of_two(0, (BIG - 1, 1), (1, 1), BIG)
        self.fails(number(BIG) + number(1) + [4, 0], 1)
        self.of_two(1, (-BIG + 1, 1), (1, 1), -BIG)
        self.fails(number(-BIG) + number(1) + [4, 1], 1)
        self.of_two(2, (10 ** 9, 1), (10 ** 9, 1), BIG)
        self.fails(number(10 ** 9) + number(10 ** 9 + 1) + [4, 2], 1)
        self.of_two(3, (1, 10 ** 9), (10 ** 9, 1), 1, BIG)
        self.fails(number(1, 10 ** 9) + number(10 ** 9 + 1) + [4, 3], 1)
        self.of_two(4, (10 ** 9, 1), (1, 10 ** 9), BIG)
        self.fails(number(10 ** 9 + 1) + number(1, 10 ** 9) + [4, 4], 1)
        self.fails(number(1, 10 ** 9) + number(1, 10 ** 9 + 1) + [4, 0], 1)

    def test_only_the_result_has_to_be_small(self):
        self.of_two(4, (1, 10 ** 9), (10 ** 9 + 1, 1), 0)
        self.of_two(4, (-1, BIG), (BIG, 1), -1)
        self.of_two(5, (BIG, 1), (1, BIG), 0)
        self.of_two(5, (1, BIG), (BIG, 1), 1, BIG)
        self.fails(number(-1, BIG) + number(BIG) + [4, 5], 1)
        self.of_two(9, (1, BIG), (1, BIG - 1), 1)

    def test_by_zero(self):
        for o in (3, 4, 5):
            self.fails(number(1) + number(0) + [4, o], 2)
            self.fails(number(0) + number(0) + [4, o], 2)
        for o in (0, 1, 2, 6):
            self.assertEqual(worth_of(number(1) + number(0) + [4, o])[0], 0)

    def test_is_so(self):
        self.gives(number(0) + [9], 0)
        self.gives(number(-1, 2) + [9], 1)
        self.gives(number(3) + [9], 1)

    def test_lesser_and_greater(self):
        for a, b in (((1, 3), (1, 2)), ((1, 2), (1, 3)), ((1, 2), (1, 2)), ((-1, 2), (-1, 3))):
            x = Fraction(*a)
            y = Fraction(*b)
            for m, due in ((0, min(x, y)), (1, max(x, y))):
                self.gives(number(*a) + number(*b) + [10, m], due.numerator, due.denominator)

    def test_jumps(self):
        self.gives(number(1) + [5, 1] + number(2) + [3, 0], -1)
        self.gives(number(1) + [5, 0] + [3, 0], -1)
        self.gives(number(1) + [5, 2] + number(2) + [3, 0], 1)
        self.gives(number(1) + number(0) + [6, 1, 3, 0], 1)
        self.gives(number(1) + number(5) + [6, 1, 3, 0], -1)
        self.gives(number(1) + number(0) + [6, 0, 3, 0], -1)
        self.gives([5, 1, 9] + number(4), 4)

    def test_what_jumps_pass_over_need_not_be_sound(self):
        self.gives(number(1) + [5, 3, 4, 0, 7, 9, 5, 99], 1)

    def test_a_jump_over_more_than_follow(self):
        self.fails(number(1) + [5, 1], 9)
        self.gives(number(1) + [5, 0], 1)
        self.fails(number(1) + [5, 3] + number(2) + [3, 0], 9)
        self.fails(number(1) + number(0) + [6, 1], 9)
        self.fails(number(1) + [5, BIG], 9)

    def test_a_jump_that_is_not_made_may_be_as_long_as_it_likes(self):
        self.gives(number(1) + number(5) + [6, 99], 1)

    def test_empty_stacks(self):
        for code in ([3, 0], [4, 0], number(1) + [4, 0], [6, 0], [7, 0], [9], [10, 0], number(1) + [10, 1]):
            self.fails(code, 9, [table(2, [], [1, 1])])

    def test_not_just_one_at_the_end(self):
        self.fails([], 9)
        self.fails(number(1) + number(2), 9)
        self.fails(number(0) + [6, 0], 9)

    def test_the_first_error_ends_it(self):
        self.fails(number(1) + number(0) + [4, 3] + [4, 0], 2)
        self.fails([9] + number(1) + number(0) + [4, 3], 9)
        self.fails(number(1) + number(0) + [4, 3] + number(1), 2)
        self.fails(number(2) + number(1, 2) + [4, 6] + number(0) + [4, 3], 3)

    def test_order_of_what_is_taken_off(self):
        self.gives(number(1) + number(2) + number(3) + [4, 1, 4, 1], 2)

    def test_what_reads_something(self):
        for read in ([1, 0], [2, 3], [8, 0, 0]):
            for code in (read, [5, 1] + read + X, X + [5, 1] + read, read + [4, 3], [9] + read, X + X + read + [5, 99]):
                self.assertEqual(worth_of(code), [2])

    def test_constant(self):
        for code, due in (
            (X, [1, 2, 0, 1]), (number(0), [0, 1, 0]), ([1, 0], [0, 1, 0]), ([], [0, 1, 0]),
            ([5, 1, 1, 0] + X, [0, 1, 0]), (X + [5, 1, 2, 0], [0, 1, 0]), (X + [5, 1, 9], [1, 2, 0, 1]),
        ):
            self.assertEqual(last(wait(code), end(), leads(0)), due)

    def test_500_numbers(self):
        code = number(1) + [9] * 497
        self.gives(code, 1)
        self.assertEqual(fold_of(code), number(1))
        self.gives(number(7) + [3, 0] * 248, 7)


class Tables(unittest.TestCase):
    def at(self, told, n, d=1):
        return worth_of(number(n, d) + [7, 0], [told])

    def test_kind_0(self):
        told = table(0, [1, 1, 5, 2, 4, 1], [10, 1, 20, 3, 30, 1])
        for n, d, due in (
            (-9, 1, (10, 1)), (1, 1, (10, 1)), (3, 2, (20, 3)), (5, 2, (20, 3)), (3, 1, (30, 1)), (4, 1, (30, 1)),
            (9, 1, (30, 1)),
        ):
            self.assertEqual(self.at(told, n, d), [0, *due])

    def test_kind_1(self):
        told = table(1, [1, 1, 3, 1, 4, 1], [10, 1, 20, 1, -5, 1])
        for n, d, due in (
            (-9, 1, (10, 1)), (1, 1, (10, 1)), (2, 1, (15, 1)), (4, 3, (35, 3)), (3, 1, (20, 1)), (7, 2, (15, 2)),
            (4, 1, (-5, 1)), (9, 1, (-5, 1)),
        ):
            self.assertEqual(self.at(told, n, d), [0, *due])

    def test_kind_1_with_one_point(self):
        told = table(1, [1, 1], [10, 1])
        for n in (0, 1, 2):
            self.assertEqual(self.at(told, n), [0, 10, 1])

    def test_kind_1_not_small(self):
        told = table(1, [0, 1, 10 ** 10, 1], [0, 1, 1, 10 ** 10])
        self.assertEqual(self.at(told, 1), [1, 1])
        self.assertEqual(self.at(told, 10 ** 10), [0, 1, 10 ** 10])
        self.assertEqual(self.at(told, 100), [0, 1, BIG])

    def test_kind_1_on_the_way_nothing_has_to_be_small(self):
        told = table(1, [-BIG, 1, BIG, 1], [-BIG, 1, BIG, 1])
        self.assertEqual(self.at(told, 5), [0, 5, 1])

    def test_kind_2(self):
        told = table(2, [], [10, 1, 20, 3])
        self.assertEqual(self.at(told, 1), [0, 10, 1])
        self.assertEqual(self.at(told, 2), [0, 20, 3])
        for n, d in ((0, 1), (3, 1), (-1, 1), (3, 2), (1, 2), (BIG, 1)):
            self.assertEqual(self.at(told, n, d), [1, 3])

    def test_lowest_terms(self):
        told = table(2, [], [2, 4, -6, 3, 0, 9])
        self.assertEqual(self.at(told, 1), [0, 1, 2])
        self.assertEqual(self.at(told, 2), [0, -2, 1])
        self.assertEqual(self.at(told, 3), [0, 0, 1])

    def test_numbered_in_order_of_telling(self):
        told = [table(2, [], [5, 1]), table(2, [], [6, 1])]
        self.assertEqual(fold_of_behind(told, number(1) + [7, 0]), number(5))
        self.assertEqual(fold_of_behind(told, number(1) + [7, 1]), number(6))

    def test_one_that_hasn_t_been_told(self):
        self.assertEqual(worth_of(number(1) + [7, 0]), [1, 9])
        self.assertEqual(worth_of(number(1) + [7, 1], [table(2, [], [1, 1])]), [1, 9])
        self.assertEqual(fold_of(number(1) + [7, 0]), number(1) + [7, 0])

    def test_each_kind_by_the_calls(self):
        code = number(3, 2) + [7, 0]
        for one, due in (
            (table(0, [1, 1, 2, 1], [4, 1, 8, 1]), number(8)),
            (table(1, [1, 1, 2, 1], [4, 1, 8, 1]), number(6)),
            (table(2, [], [4, 1, 8, 1]), code),
        ):
            self.assertEqual(fold_of_behind([one], code), due)

    def test_a_table_may_be_told_behind_the_block(self):
        found = run(create(), block(8, [], number(1) + [7, 0]), table(2, [], [9, 2]), FOLD, look(1))
        self.assertEqual(found[3:], [[0, 1], shown(8, [], number(9, 2))])


def fold_of_behind(tables, code):
    return last(*tables, create(), block(8, [], code), FOLD, look(1))[3:]


class Folded(unittest.TestCase):
    def becomes(self, code, due, tables=()):
        """What folded answers, and what fold makes of a block's code."""
        self.assertEqual(last(*tables, folded(code)), [len(due)] + due)
        self.assertEqual(fold_of_behind(tables, code), due)

    def test_constants(self):
        self.becomes(number(1) + number(2) + [4, 0], number(3))
        self.becomes(X, X)
        self.becomes(number(0) + [6, 1, 9] + number(4), number(4))

    def test_neither_constant_nor_anything_to_fold(self):
        for code in ([], [1, 0], [9], [3, 0], [8, 1, 1, 3, 2], [1, 0] + X + [4, 0], X + [1, 0, 4, 0], X + [10, 0]):
            self.becomes(code, code)

    def test_of_one(self):
        self.becomes([1, 0] + X + [3, 2, 4, 0], [1, 0] + TWO + [4, 0])
        self.becomes([1, 0] + X + [9, 4, 0], [1, 0] + number(1) + [4, 0])
        self.becomes([1, 0, 3, 2], [1, 0, 3, 2])
        self.becomes(X + [1, 0, 9, 4, 0], X + [1, 0, 9, 4, 0])

    def test_of_two(self):
        self.becomes([1, 0] + number(1) + TWO + [4, 1, 4, 0], [1, 0] + number(-1) + [4, 0])
        self.becomes([2, 0] + number(1) + TWO + [10, 1, 4, 0], [2, 0] + TWO + [4, 0])
        self.becomes([8, 0, 0] + TWO + [4, 0] + number(3) + [4, 0], [8, 0, 0] + TWO + [4, 0] + number(3) + [4, 0])

    def test_at_the_front(self):
        self.becomes(X + [3, 2, 1, 0, 4, 0], TWO + [1, 0, 4, 0])
        self.becomes(number(1) + TWO + [4, 0, 1, 0, 4, 0], number(3) + [1, 0, 4, 0])

    def test_again_and_again(self):
        self.becomes([1, 0] + number(1) + TWO + [4, 0, 3, 0] + number(5) + [4, 2, 4, 0], [1, 0] + number(-15) + [4, 0])

    def test_more_on_the_stack(self):
        self.becomes(number(1) + number(2) + number(3) + [4, 0], number(1) + number(5))
        self.becomes(TWO + [4, 0], TWO + [4, 0])

    def test_errors_stay(self):
        bad = number(1) + number(0) + [4, 3]
        self.becomes(bad, bad)
        self.becomes([1, 0] + bad + [4, 0], [1, 0] + bad + [4, 0])
        self.becomes(bad + TWO + [3, 0], bad + number(-2))
        for bad in (number(BIG) + number(1) + [4, 0], number(2) + number(65) + [4, 6]):
            self.becomes(bad, bad)

    def test_what_stands_behind_an_error_finds_no_number(self):
        bad = number(1) + number(0) + [4, 3]
        self.becomes(bad + [9], bad + [9])

    def test_jumps_stay_as_they_were(self):
        for jump in ([5, 0], [1, 1, 6, 0]):
            code = [1, 0] + X + [3, 2, 4, 0] + jump
            self.becomes(code, code)

    def test_tables(self):
        told = [table(2, [], [7, 2])]
        self.becomes([1, 0] + number(1) + [7, 0, 4, 0], [1, 0] + number(7, 2) + [4, 0], told)
        self.becomes([1, 0] + number(2) + [7, 0, 4, 0], [1, 0] + number(2) + [7, 0, 4, 0], told)
        self.becomes([1, 0] + number(1) + [7, 1, 4, 0], [1, 0] + number(1) + [7, 1, 4, 0], told)
        self.becomes([1, 0, 7, 0], [1, 0, 7, 0], told)

    def test_what_is_read_folds_nothing(self):
        told = [table(2, [], [7, 2])]
        for read in ([1, 0], [2, 0], [8, 0, 0]):
            self.becomes(number(1) + read + [4, 0], number(1) + read + [4, 0], told)
        self.becomes(number(1) + number(0), number(1) + number(0), told)

    def test_500_numbers(self):
        self.becomes(number(1) + [9] * 497, number(1))
        self.becomes([9] * 500, [9] * 500)
        self.becomes([1, 0] * 250, [1, 0] * 250)
        self.becomes(number(1) + number(2) * 162 + [4, 0, 3, 0, 3, 0, 3, 0, 3, 0],
                     number(1) + number(2) * 160 + number(4))


BAD_CODES = (
    [0, 0, 2], [0, 2, 4], [0, 1, 0], [0, 1, -1], [1, -1], [2, -1], [8, -1, 0], [8, 0, -1], [3, -1], [3, 8], [4, -1],
    [4, 13], [5, -1], [6, -1], [7, -1], [10, -1], [10, 2], [11], [-1], [BIG], [-BIG], [0], [0, 1], [1], [2], [3], [4],
    [5], [6], [7], [8], [8, 0], [10], [9, 9, 4], [1, 1, 0, 1], [5, 1, 11, 0, 1, 1], [9] * 501, [0, 1, 1] * 400,
    [9] * 2000,
)


class Calls(unittest.TestCase):
    def test_no_code(self):
        for code in BAD_CODES:
            self.assertEqual(run(worth(code), folded(code), AGAIN), [[-4], [-4], [0]], code)

    def test_no_code_is_the_one_refusal(self):
        for told in ([], [go(5)], [create(), PASS], [create(), end(), end(), PASS]):
            for code, value, fold in ((X, [0, 7, 3], [3] + X), ([], [1, 9], [0]), ([1, 0], [2], [2, 1, 0])):
                self.assertEqual(run(*told, worth(code), folded(code))[len(told):], [value, fold])
            self.assertEqual(run(*told, worth([11]), folded([11]))[len(told):], [[-4], [-4]])

    def test_the_tables_of_now(self):
        code = number(1) + [7, 0]
        told = table(2, [], [5, 2])
        asked = [worth(code), folded(code)]
        bare = [[1, 9], [5] + code]
        full = [[0, 5, 2], [3] + number(5, 2)]
        found = run(*asked, told, *asked, create(), PASS, *asked, AGAIN, *asked, CLEAR, *asked)
        self.assertEqual([found[k] for k in (0, 1, 3, 4, 7, 8, 10, 11, 13, 14)], bare + full + full + full + bare)

    def test_a_refused_table_isn_t_told(self):
        self.assertEqual(last(table(5, [], [1, 1]), worth(number(1) + [7, 0])), [1, 9])

    def test_they_don_t_begin_the_work(self):
        self.assertEqual(run(create(), worth(X), folded(X), create(), table(2, [], [1, 1]))[3:], [[1], [0]])


if __name__ == "__main__":
    unittest.main()
