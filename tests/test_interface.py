"""How calls stand one behind another, and how their answers do."""

import unittest

from blockpass.image import answers
from helper import (
    AGAIN, CLEAR, IDLE, LIVE, PASS, RINGS, SIZE, TOLD, block, circle, create, dominators, end, folded, go, leads, look,
    next_of, origin, place, run, table, worth,
)


class Lists(unittest.TestCase):
    def test_each_answer_stands_behind_its_count(self):
        calls = [0, 0, 5, 0, 0, 0, 1, 0, 0] + [0, 3, 1, 0, 0] + [10] + [9, 1] + [11, 1] + [6] + [8] + [10]
        self.assertEqual(answers(calls), [
            1, 0,
            1, 1,
            4, 2, 2, 0, 0,
            4, 3, 1, 0, 0,
            4, 0, 2, 1, 0,
            5, 0, 0, 0, 0, 0,
            1, 0,
            1, -5,
        ])

    def test_the_readme_s_list(self):
        calls = [0, 0, 5, 0, 0, 0, 1, 0, 0, 0, 4, 1, 3, 3, 0, 0, 1, 0, 9, 0, 0, 0, 17, 1, 0, 0, 6, 10, 9, 1]
        self.assertEqual(answers(calls), [
            1, 0, 1, 1, 1, 2, 1, 3, 5, 0, 0, 1, 0, 2, 4, 2, 4, 0, 0, 4, 17, 1, 0, 0,
        ])
        self.assertEqual(answers(calls + [18, 1, 19, 1])[-4:], [1, 1, 1, 3])

    def test_one_call_alone(self):
        self.assertEqual(answers([7]), [1, 0])
        self.assertEqual(answers([8]), [1, 0])
        self.assertEqual(answers([10]), [1, -5])
        self.assertEqual(answers([1, 2, 0, 2, 5, 1]), [1, 0])

    def test_a_refused_call_is_read_whole(self):
        self.assertEqual(answers([0, 99, 3, 7, 8, 9, 2, 1, 1, 7]), [1, -3, 1, 0])
        self.assertEqual(answers([1, 9, 3, 7, 8, 9, 2, 1, 1, 7]), [1, -3, 1, 0])
        self.assertEqual(answers([9, -5, 7]), [1, -5, 1, 0])
        self.assertEqual(answers([11, 10 ** 18, 7]), [1, -5, 1, 0])

    def test_each_call_is_read_whole(self):
        told = [0, 0, 5, 0, 0, 0, 1, 0, 0]
        for one, answer in (
            ([0, 9, 0, 0], [1, 1]), ([1, 2, 0, 2, 5, 1], [1, 0]), ([2], [2, 0, 0]), ([3], [2, 0, 0]), ([4], [2, 0, 0]),
            ([5], [2, 0, 0]), ([6], [5, 0, 0, 0, 0, 0]), ([7], [1, 0]), ([8], [1, 0]),
            ([9, 0], [8, 0, 5, 0, 0, 0, 1, 0, 0]), ([10], [4, 1, 1, 0, 0]), ([11, 0], [3, 0, 1, 0]),
            ([12, 0], [1, 0]), ([13], [2, 1, 0]), ([14], [1, 0]), ([15], [1, 0]), ([16, 0], [2, 1, 0]),
            ([17, 0], [2, 1, 0]), ([18, 0], [1, 0]), ([19, 0], [1, 0]), ([20, 3, 0, 7, 3], [3, 0, 7, 3]),
            ([20, 0], [2, 1, 9]), ([20, 2, 1, 8], [1, 2]), ([21, 2, 1, 8], [3, 2, 1, 8]), ([21, 0], [1, 0]),
            ([22], [9, 1, 0, 5, 0, 0, 0, 1, 0, 0]),
        ):
            with self.subTest(one=one):
                self.assertEqual(answers(told + one + [8, 10]), [1, 0] + answer + [1, 0, 1, -5])

    def test_no_call_of_the_forms_told_is_unknown(self):
        for told in ([], create(), create() + go(9), create() + end() + end() + PASS):
            for one in (
                create(), table(2, [], [1, 1]), [2], [3], [4], [5], [6], [7], [8], look(0), SIZE, leads(0), next_of(0),
                LIVE, IDLE, RINGS, dominators(0), circle(0), place(0), origin(0), worth([9]), folded([9]), TOLD,
            ):
                self.assertNotIn(-9, answers(told + one))

    def test_a_refused_question_is_read_whole(self):
        for one in ([12, -5], [13], [14], [15], [16, 0], [17, 10 ** 18], [18, 0], [19, -10 ** 18], [22]):
            self.assertEqual(answers(one + [7]), [1, -5, 1, 0])
        for one in ([20, 4, 0, 8, 8, 8], [21, 4, 0, 8, 8, 8]):
            self.assertEqual(answers(one + [7]), [1, -4, 1, 0])

    def test_400_calls(self):
        calls = [create()] + [SIZE] * 399
        self.assertEqual(run(*calls), [[0]] + [[1, 1, 0, 0]] * 399)

    def test_what_is_handed_in_is_not_changed(self):
        calls = []
        for one in (create(), block(4, [3], [0, 0, 1]), go(3), go(4), end(), table(0, [1, 2], [4, 6]), PASS, look(0),
                    leads(1), next_of(0), LIVE, IDLE, RINGS, dominators(1), circle(1), place(2), origin(1),
                    worth([0, 1, 1, 3, 0]), folded([0, 1, 1, 3, 0]), TOLD, AGAIN, SIZE, CLEAR, create()):
            calls += one
        before = list(calls)
        answers(calls)
        self.assertEqual(calls, before)

    def test_what_is_given_back_is_the_caller_s(self):
        calls = create() + look(0)
        first = answers(calls)
        kept = list(first)
        first.append(5)
        self.assertEqual(answers(calls), kept)

    def test_nothing_is_kept_from_one_time_to_the_next(self):
        told = create() + table(2, [], [1, 1]) + [6]
        self.assertEqual(answers(told), [1, 0, 1, 0, 5, 0, 0, 0, 0, 0])
        self.assertEqual(answers(told), [1, 0, 1, 0, 5, 0, 0, 0, 0, 0])
        self.assertEqual(answers([10]), [1, -5])

    def test_whole_numbers_only(self):
        told = create() + block(4, [2], [0, 0, 1]) + end() + block(6, [0], [0, 1, 2, 3, 1]) + block(13, [0, 0])
        asked = [10, 9, 0, 9, 1, 11, 1, 12, 0, 13, 14, 15, 16, 1, 17, 1, 18, 2, 18, 3, 19, 1, 22]
        codes = worth([0, 1, 1, 9]) + worth([]) + worth([1, 0]) + folded([1, 0, 0, 1, 1, 9, 4, 0])
        for answer in (answers(told + asked + [6] + asked + codes), answers(told + [2, 9, 3, 3, 4, 5] + asked)):
            self.assertEqual([n for n in answer if n.__class__ is not int], [])


if __name__ == "__main__":
    unittest.main()
