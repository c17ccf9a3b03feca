"""The calls block and table: each kind, the edges of their forms, and each refusal."""

import unittest

from helper import (
    AGAIN, BIG, CLEAR, DECIDE, DROP, EXPECTED_KINDS, FOLD, PASS, SHORT, SIZE, block, create, go, last, look, run, shown,
    table,
)

POINT = table(2, [], [1, 1])


def numbers_for(kind, count):
    return [k % 3 for k in range(count)]


class Kinds(unittest.TestCase):
    def test_there_are_45(self):
        self.assertEqual(sorted(EXPECTED_KINDS), list(range(45)))

    def test_each_kind_told_and_looked_at(self):
        for kind, form in EXPECTED_KINDS.items():
            for count in form[0]:
                with self.subTest(kind=kind, count=count):
                    numbers = numbers_for(kind, count)
                    code = [1, 5, 0, 1, 2, 4, 0] if form[2] else []
                    told = [create(), create(), block(kind, numbers, code)]
                    self.assertEqual(run(*told, look(2)), [[0], [1], [2], shown(kind, numbers, code)])

    def test_the_count_of_numbers(self):
        for kind, form in EXPECTED_KINDS.items():
            for count in range(36):
                with self.subTest(kind=kind, count=count):
                    due = [0] if count in form[0] else [-3]
                    self.assertEqual(last(block(kind, [0] * count)), due)

    def test_which_kinds_have_a_code(self):
        for kind, form in EXPECTED_KINDS.items():
            with self.subTest(kind=kind):
                numbers = [0] * form[0][0]
                self.assertEqual(last(block(kind, numbers, [9])), [0] if form[2] else [-3])
                self.assertEqual(last(block(kind, numbers, [99])), [-4] if form[2] else [-3])
                self.assertEqual(last(block(kind, numbers, [])), [0])

    def labels(self, kind, count):
        if kind == 11:
            return range(2, count, 2)
        return EXPECTED_KINDS[kind][1]

    def test_which_numbers_are_labels(self):
        for kind, form in EXPECTED_KINDS.items():
            for count in (form[0][0], form[0][-1]):
                for k in range(count):
                    with self.subTest(kind=kind, count=count, k=k):
                        is_label = k in self.labels(kind, count)
                        for n in (-1, 200, BIG, -BIG):
                            numbers = [0] * count
                            numbers[k] = n
                            self.assertEqual(last(block(kind, numbers)), [-3] if is_label else [0])
                        for n in (0, 199):
                            numbers = [0] * count
                            numbers[k] = n
                            self.assertEqual(last(block(kind, numbers)), [0])

    def test_a_label_behind_the_blocks_isn_t_ready(self):
        for kind, form in EXPECTED_KINDS.items():
            for count in (form[0][0], form[0][-1]):
                for k in range(count):
                    with self.subTest(kind=kind, count=count, k=k):
                        numbers = [0] * count
                        numbers[k] = 1
                        ready = k not in self.labels(kind, count)
                        self.assertEqual(last(block(kind, numbers), SIZE) != [-5], ready)
                        self.assertNotEqual(last(block(kind, numbers), create(), SIZE), [-5])

    def test_no_such_kind(self):
        for kind in (-1, 45, 46, BIG, -BIG):
            self.assertEqual(last(block(kind)), [-3])
            self.assertEqual(last(block(kind, [1], [99])), [-3])

    def test_numbers_out_of_range(self):
        self.assertEqual(last(block(2, [BIG, -BIG])), [0])
        self.assertEqual(last(block(2, [BIG + 1, 0])), [-3])
        self.assertEqual(last(block(2, [0, -BIG - 1])), [-3])


class BlockRefusals(unittest.TestCase):
    def test_200_blocks(self):
        told = [create()] * 200
        found = run(*told, create(), SIZE)
        self.assertEqual(found[:200], [[i] for i in range(200)])
        self.assertEqual(found[200:], [[-2], [200, 200, 0, 0]])

    def test_no_room_comes_before_the_form_and_the_code(self):
        told = [create()] * 200
        self.assertEqual(last(*told, block(99)), [-2])
        self.assertEqual(last(*told, block(1, [], [99])), [-2])

    def test_begun_comes_before_no_room_form_and_code(self):
        told = [create()] * 200
        self.assertEqual(last(*told, FOLD, create()), [-1])
        self.assertEqual(last(create(), FOLD, block(99)), [-1])
        self.assertEqual(last(create(), FOLD, block(1, [], [99])), [-1])

    def test_the_form_comes_before_the_code(self):
        self.assertEqual(last(block(1, [3], [99])), [-3])
        self.assertEqual(last(block(4, [200], [99])), [-3])
        self.assertEqual(last(block(4, [199], [99])), [-4])

    def test_each_work_begins_it(self):
        for work in (FOLD, DECIDE, SHORT, DROP, PASS):
            self.assertEqual(last(create(), work, create()), [-1])
            self.assertEqual(last(create(), work, POINT), [-1])

    def test_questions_and_refused_work_don_t_begin_it(self):
        self.assertEqual(last(create(), SIZE, look(0), [11, 0], create()), [1])
        for work in (FOLD, DECIDE, SHORT, DROP, PASS):
            self.assertEqual(run(work, create(), go(5), work, create(), POINT), [[-5], [0], [1], [-5], [2], [0]])

    def test_again_and_clear_let_more_be_told(self):
        self.assertEqual(run(create(), PASS, AGAIN, create(), POINT)[2:], [[0], [1], [0]])
        self.assertEqual(run(create(), PASS, CLEAR, create(), POINT)[2:], [[0], [0], [0]])

    def test_a_refused_block_changes_nothing(self):
        found = run(create(), block(99), block(1, [], [99]), SIZE, create())
        self.assertEqual(found, [[0], [-3], [-4], [1, 1, 0, 0], [1]])


class CodeForms(unittest.TestCase):
    def answer(self, code):
        return last(block(8, [], code))[0]

    def test_sound_codes(self):
        for code in (
            [], [0, 0, 1], [0, BIG, 1], [0, -BIG, 1], [0, 1, BIG], [0, -7, 3], [1, 0], [1, BIG], [2, 0], [2, BIG],
            [8, 0, 0], [8, BIG, BIG], [3, 0], [3, 7], [4, 0], [4, 12], [5, 0], [5, BIG], [6, 0], [6, BIG],
            [7, 0], [7, BIG], [9], [10, 0], [10, 1], [9, 9, 10, 1, 0, 5, 6, 4, 4],
        ):
            with self.subTest(code=code):
                self.assertEqual(self.answer(code), 0)
                self.assertEqual(last(create(), block(8, [], code), look(1)), shown(8, [], code))

    def test_unsound_codes(self):
        for code in (
            [0, 0, 2], [0, 2, 4], [0, -3, 3], [0, 1, 0], [0, 1, -1], [0, BIG + 1, 1], [0, -BIG - 1, 1], [0, 1, BIG + 1],
            [1, -1], [2, -1], [8, -1, 0], [8, 0, -1], [3, -1], [3, 8], [4, -1], [4, 13], [5, -1], [6, -1], [7, -1],
            [10, -1], [10, 2], [11], [-1], [11, 0], [BIG],
            [0], [0, 1], [1], [2], [3], [4], [5], [6], [7], [8], [8, 0], [10], [9, 9, 4], [1, 1, 0, 1],
        ):
            with self.subTest(code=code):
                self.assertEqual(self.answer(code), -4)

    def test_500_numbers(self):
        self.assertEqual(self.answer([9] * 500), 0)
        self.assertEqual(self.answer([9] * 501), -4)
        self.assertEqual(self.answer([1, 0] * 250), 0)
        self.assertEqual(last(create(), block(8, [], [9] * 500), look(1)), shown(8, [], [9] * 500))


class TableForms(unittest.TestCase):
    def test_sound_tables(self):
        for one in (
            table(0, [1, 1], [5, 2]), table(1, [1, 1, 3, 2], [5, 2, 0, 1]), table(2, [], [5, 2, 1, 1]),
            table(0, [-BIG, 1, BIG, 1], [-BIG, BIG, BIG, BIG]), table(2, [], [2, 4]), table(0, [2, 4, 3, 4], [1, 1, 1, 1]),
            table(2, [], [0, 5]),
        ):
            with self.subTest(one=one):
                self.assertEqual(last(one), [0])

    def test_unsound_tables(self):
        for one in (
            table(3, [1, 1], [1, 1]), table(-1, [1, 1], [1, 1]), table(BIG, [], [1, 1]),
            table(0, [1], [1, 1]), table(0, [1, 1], [1]), table(2, [], [1, 1, 1]), table(1, [1, 1, 2], [1, 1, 1, 1]),
            table(0, [1, 0], [1, 1]), table(0, [1, -1], [1, 1]), table(0, [1, 1], [1, 0]), table(2, [], [1, -1]),
            table(2, [], [BIG + 1, 1]), table(2, [], [-BIG - 1, 1]), table(2, [], [1, BIG + 1]),
            table(0, [BIG + 1, 1], [1, 1]), table(0, [1, BIG + 1], [1, 1]),
            table(0, [], []), table(1, [], []), table(2, [], []),
            table(0, [], [1, 1]), table(1, [1, 1], [1, 1, 2, 1]), table(0, [1, 1, 2, 1], [1, 1]), table(0, [1, 1], []),
            table(2, [1, 1], [1, 1]),
            table(0, [1, 1, 1, 1], [1, 1, 2, 1]), table(0, [1, 2, 2, 4], [1, 1, 2, 1]),
            table(1, [2, 1, 1, 1], [1, 1, 2, 1]), table(1, [1, 1, 3, 1, 2, 1], [1, 1, 2, 1, 3, 1]),
        ):
            with self.subTest(one=one):
                self.assertEqual(last(one), [-3])

    def test_64_points(self):
        pairs = []
        for k in range(65):
            pairs += [k, 1]
        for kind in (0, 1):
            self.assertEqual(last(table(kind, pairs[:128], pairs[:128])), [0])
            self.assertEqual(last(table(kind, pairs, pairs)), [-3])
        self.assertEqual(last(table(2, [], pairs[:128])), [0])
        self.assertEqual(last(table(2, [], pairs)), [-3])

    def test_64_tables(self):
        told = [POINT] * 64
        found = run(*told, POINT, create(), SIZE)
        self.assertEqual(found[:64], [[t] for t in range(64)])
        self.assertEqual(found[64:], [[-2], [0], [1, 1, 64, 0]])

    def test_which_refusal(self):
        told = [POINT] * 64
        self.assertEqual(last(*told, table(5, [], [])), [-2])
        self.assertEqual(last(create(), *told, FOLD, POINT), [-1])
        self.assertEqual(last(create(), FOLD, table(5, [], [])), [-1])

    def test_a_refused_table_changes_nothing(self):
        self.assertEqual(run(table(5, [], []), POINT, create(), SIZE), [[-3], [0], [0], [1, 1, 1, 0]])


if __name__ == "__main__":
    unittest.main()
