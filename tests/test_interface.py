"""How calls stand one behind another, and how their answers do."""

import unittest

from blockpass.image import answers
from helper import AGAIN, CLEAR, PASS, SIZE, block, create, end, go, leads, look, run, table


class Lists(unittest.TestCase):
    def test_each_answer_stands_behind_its_count(self):
        calls = [0, 0, 5, 0, 0, 0, 1, 0, 0] + [0, 3, 1, 0, 0] + [10] + [9, 1] + [11, 1] + [6] + [8] + [10]
        self.assertEqual(answers(calls), [
            1, 0,
            1, 1,
            4, 2, 2, 0, 0,
            4, 3, 1, 0, 0,
            4, 0, 2, 1, 0,
            5, 0, 0, 0, 0, 0,
            1, 0,
            1, -5,
        ])

    def test_the_readme_s_list(self):
        calls = [0, 0, 5, 0, 0, 0, 1, 0, 0, 0, 4, 1, 3, 3, 0, 0, 1, 0, 9, 0, 0, 0, 17, 1, 0, 0, 6, 10, 9, 1]
        self.assertEqual(answers(calls), [
            1, 0, 1, 1, 1, 2, 1, 3, 5, 0, 0, 1, 0, 2, 4, 2, 4, 0, 0, 4, 17, 1, 0, 0,
        ])

    def test_one_call_alone(self):
        self.assertEqual(answers([7]), [1, 0])
        self.assertEqual(answers([8]), [1, 0])
        self.assertEqual(answers([10]), [1, -5])
        self.assertEqual(answers([1, 2, 0, 2, 5, 1]), [1, 0])

    def test_a_refused_call_is_read_whole(self):
        self.assertEqual(answers([0, 99, 3, 7, 8, 9, 2, 1, 1, 7]), [1, -3, 1, 0])
        self.assertEqual(answers([1, 9, 3, 7, 8, 9, 2, 1, 1, 7]), [1, -3, 1, 0])
        self.assertEqual(answers([9, -5, 7]), [1, -5, 1, 0])
        self.assertEqual(answers([11, 10 ** 18, 7]), [1, -5, 1, 0])

    def test_rows_of_the_calls_that_aren_t_built_are_read_over(self):
        for other in ([12, 0], [13], [14], [15], [16, 0], [17, 0], [18, 0], [19, 0], [20, 3, 1, 1, 9], [21, 1, 9], [22]):
            self.assertEqual(answers(other + [8]), [1, -9, 1, 0])

    def test_400_calls(self):
        calls = [create()] + [SIZE] * 399
        self.assertEqual(run(*calls), [[0]] + [[1, 1, 0, 0]] * 399)

    def test_what_is_handed_in_is_not_changed(self):
        calls = []
        for one in (create(), block(4, [3], [0, 0, 1]), go(3), go(4), end(), table(0, [1, 2], [4, 6]), PASS, look(0),
                    leads(1), AGAIN, SIZE, CLEAR, create()):
            calls += one
        before = list(calls)
        answers(calls)
        self.assertEqual(calls, before)

    def test_what_is_given_back_is_the_caller_s(self):
        calls = create() + look(0)
        first = answers(calls)
        kept = list(first)
        first.append(5)
        self.assertEqual(answers(calls), kept)

    def test_nothing_is_kept_from_one_time_to_the_next(self):
        told = create() + table(2, [], [1, 1]) + [6]
        self.assertEqual(answers(told), [1, 0, 1, 0, 5, 0, 0, 0, 0, 0])
        self.assertEqual(answers(told), [1, 0, 1, 0, 5, 0, 0, 0, 0, 0])
        self.assertEqual(answers([10]), [1, -5])

    def test_whole_numbers_only(self):
        told = create() + block(4, [2], [0, 0, 1]) + end() + block(6, [0], [0, 1, 2, 3, 1]) + block(13, [0, 0])
        for answer in (answers(told + [10, 6, 10, 9, 0, 9, 1, 11, 1]), answers(told + [2, 9, 3, 3, 4, 5])):
            self.assertEqual([n for n in answer if n.__class__ is not int], [])


if __name__ == "__main__":
    unittest.main()
