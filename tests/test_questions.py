"""The questions about the image now, but those of far ways and of origins; what stays."""

import unittest

from helper import (
    AGAIN, BIG, CLEAR, DECIDE, DROP, EXPECTED_KINDS, FOLD, IDLE, LIVE, PASS, RINGS, SHORT, SIZE, TOLD, back, block, call,
    choose, circle, create, dominators, end, go, hold, last, leads, listed, look, match, next_of, number, origin, place,
    plain, run, shown, table, wait, when,
)

ONE = number(1)
ZERO = number(0)
HALF = number(1, 2)
READS = [1, 0]


def live(*told):
    return last(*told, LIVE)[1:]


def idle(*told):
    return last(*told, IDLE)[1:]


def stays(*told):
    """What stays, by the origins behind drop."""
    n = last(*told, DROP, SIZE)[0]
    return [last(*told, DROP, origin(i))[0] for i in range(n)]


def frozen(*told):
    return last(*told, SIZE)[3]


OF_A_BLOCK = (look, leads, next_of, dominators, circle, place, origin)
OF_THE_IMAGE = (SIZE, LIVE, IDLE, RINGS, TOLD)


class Refusals(unittest.TestCase):
    def test_an_image_that_isn_t_ready(self):
        for told in ([], [go(1)], [create(), create(), choose(0, 1, 3)], [match(1)], [create(), CLEAR]):
            for question in OF_THE_IMAGE:
                self.assertEqual(last(*told, question), [-5])
            for question in OF_A_BLOCK:
                self.assertEqual(last(*told, question(0)), [-5])

    def test_not_ready_comes_before_no_such_block(self):
        for question in OF_A_BLOCK:
            for i in (-1, 2, 99, BIG):
                self.assertEqual(last(create(), go(2), question(i)), [-5])
                self.assertEqual(last(question(i)), [-5])

    def test_no_such_block(self):
        for question in OF_A_BLOCK:
            for i in (-1, -2, 2, 3, 200, BIG, -BIG):
                self.assertEqual(last(create(), create(), question(i)), [-6])
            for i in (0, 1):
                self.assertNotEqual(last(create(), create(), question(i)), [-6])

    def test_it_is_the_image_now_that_counts(self):
        told = [create(), end(), end()]
        for question in (look, leads, next_of, dominators, circle, origin):
            self.assertNotEqual(last(*told, question(2)), [-6])
            self.assertEqual(last(*told, DROP, question(2)), [-6])
            self.assertNotEqual(last(*told, DROP, question(1)), [-6])
            self.assertNotEqual(last(*told, DROP, AGAIN, question(2)), [-6])
            self.assertEqual(last(*told, DROP, CLEAR, question(2)), [-5])

    def test_questions_change_nothing(self):
        told = [create(), wait(ONE + ONE + [4, 0]), when(4, ZERO), go(0), end()]
        before = last(*told, TOLD)
        for work in ([], [FOLD], [DECIDE], [SHORT], [DROP], [PASS]):
            asked = [*OF_THE_IMAGE]
            for question in OF_A_BLOCK:
                asked += [question(0), question(1), question(99)]
            self.assertEqual(last(*told, *work, *asked, TOLD), last(*told, *work, TOLD))
            found = run(*told, *asked, *work, *asked)
            self.assertEqual(found[5 + len(asked):], run(*told, *work, *asked)[5:])
            self.assertEqual(run(*told, *asked, create(), TOLD)[-2:], [[5], [6] + before[1:] + shown(0, [0, 0, 0, 1, 0])])


class Size(unittest.TestCase):
    def test_counts(self):
        told = [create(), table(2, [], [1, 1]), end(), end(), table(2, [], [1, 1])]
        self.assertEqual(last(*told, SIZE), [3, 3, 2, 0])
        self.assertEqual(last(*told, DROP, SIZE), [2, 3, 2, 0])

    def test_frozen(self):
        self.assertEqual(frozen(create(), call(0)), 1)
        self.assertEqual(frozen(create(), back()), 1)
        self.assertEqual(frozen(create(), plain(), back()), 1)
        self.assertEqual(frozen(create(), end()), 0)

    def test_a_call_or_back_that_isn_t_live_doesn_t_freeze(self):
        self.assertEqual(frozen(create(), end(), call(0), back()), 0)
        self.assertEqual(frozen(create(0), back()), 0)
        self.assertEqual(frozen(create(), wait(ZERO), back()), 0)
        self.assertEqual(frozen(create(), when(3, ZERO), back(), end()), 0)
        self.assertEqual(frozen(create(), when(3, ONE), end(), back()), 0)

    def test_frozen_now(self):
        told = [create(), block(15, [0, 3]), end(), go(4), call(0)]
        self.assertEqual(run(*told, SIZE, DECIDE, DROP, SIZE)[5:], [[5, 5, 0, 1], [0, 0], [0, 0], [5, 5, 0, 1]])


class Leads(unittest.TestCase):
    def answer(self, i, *told):
        return last(*told, leads(i))

    def test_a_block_that_doesn_t_only_lead_on(self):
        self.assertEqual(self.answer(0, create()), [0, 1, 0])
        self.assertEqual(self.answer(1, create(), plain(), end()), [1, 1, 1])

    def test_each_kind(self):
        for kind, form in EXPECTED_KINDS.items():
            for code in ([], ONE, ZERO) if form[2] else ([],):
                with self.subTest(kind=kind, code=code):
                    numbers = [0] * form[0][0]
                    due = [0, 1, 0]
                    if kind in (3, 4) and (kind == 3 or code == ZERO):
                        numbers[0] = 1
                        due = [1, 2, 0, 1]
                    elif kind in (4, 5) and code == ONE or kind == 1 and code == ZERO:
                        due = [1, 2, 0, 1]
                    self.assertEqual(self.answer(0, block(kind, numbers, code), end()), due)

    def test_a_go(self):
        self.assertEqual(self.answer(0, go(2), plain(), end()), [2, 2, 0, 2])
        self.assertEqual(self.answer(2, end(), plain(), go(0)), [0, 2, 2, 0])

    def test_an_if(self):
        self.assertEqual(self.answer(0, when(2, ZERO), plain(), end()), [2, 2, 0, 2])
        for code in (ONE, HALF, number(-1)):
            self.assertEqual(self.answer(0, when(2, code), plain(), end()), [1, 2, 0, 1])
        for code in (READS, [], number(1) + ZERO + [4, 3]):
            self.assertEqual(self.answer(0, when(2, code), plain(), end()), [0, 1, 0])

    def test_a_wait(self):
        for code in (ONE, HALF, number(-1)):
            self.assertEqual(self.answer(0, wait(code), end()), [1, 2, 0, 1])
        for code in (ZERO, READS, []):
            self.assertEqual(self.answer(0, wait(code), end()), [0, 1, 0])

    def test_a_hold(self):
        for code in (ZERO, HALF, number(BIG - 1, BIG), number(1, BIG)):
            self.assertEqual(self.answer(0, hold(code), end()), [1, 2, 0, 1])
        for code in (ONE, number(3, 2), number(-1), number(-1, BIG), READS, []):
            self.assertEqual(self.answer(0, hold(code), end()), [0, 1, 0])

    def test_codes_needn_t_be_folded(self):
        self.assertEqual(self.answer(0, wait(ONE + ONE + [4, 0]), end()), [1, 2, 0, 1])
        self.assertEqual(self.answer(0, wait(ONE + ONE + [4, 1]), end()), [0, 1, 0])
        self.assertEqual(self.answer(0, when(2, ONE + ONE + [4, 1]), plain(), end()), [2, 2, 0, 2])

    def test_by_a_table(self):
        told = [wait(ONE + [7, 0]), end()]
        self.assertEqual(self.answer(0, *told), [0, 1, 0])
        self.assertEqual(self.answer(0, *told, table(2, [], [5, 1])), [1, 2, 0, 1])

    def test_a_chain(self):
        told = [go(3), end(), wait(ONE), when(2, ZERO), end()]
        self.assertEqual(self.answer(0, *told), [0, 5, 0, 3, 2, 3, 2])
        told = [go(3), end(), wait(ONE), when(5, ZERO), end(), hold(ZERO), go(1)]
        self.assertEqual(self.answer(0, *told), [1, 5, 0, 3, 5, 6, 1])
        self.assertEqual(self.answer(2, *told), [1, 5, 2, 3, 5, 6, 1])

    def test_behind_the_end(self):
        for final in (wait(ONE), hold(ZERO), when(0, ONE)):
            self.assertEqual(self.answer(1, create(), final), [1, 1, 1])
            self.assertEqual(self.answer(0, go(2), end(), final), [2, 2, 0, 2])
        self.assertEqual(self.answer(0, wait(ONE)), [0, 1, 0])

    def test_a_ring(self):
        self.assertEqual(self.answer(0, go(0)), [0, 1, 0])
        told = [go(1), go(2), go(1), end()]
        self.assertEqual(self.answer(0, *told), [0, 4, 0, 1, 2, 1])
        self.assertEqual(self.answer(1, *told), [1, 4, 1, 2, 1, 2])
        self.assertEqual(self.answer(2, *told), [2, 4, 2, 1, 2, 1])
        self.assertEqual(self.answer(3, *told), [3, 1, 3])

    def test_200_blocks_in_a_chain_and_in_a_ring(self):
        chain = [go(i + 1) for i in range(199)]
        self.assertEqual(self.answer(0, *chain, end()), [199, 200] + list(range(200)))
        self.assertEqual(self.answer(198, *chain, end()), [199, 2, 198, 199])
        self.assertEqual(self.answer(0, *chain, go(0)), [0, 200] + list(range(200)))
        self.assertEqual(self.answer(7, *chain, go(0)), [7, 200] + list(range(7, 200)) + list(range(7)))
        self.assertEqual(self.answer(0, *chain, go(199)), [0, 200] + list(range(200)))
        self.assertEqual(self.answer(0, *chain, wait(ONE)), [199, 200] + list(range(200)))


class MayComeNext(unittest.TestCase):
    def of(self, i, *told):
        found = last(*told, next_of(i))
        self.assertEqual(found[0], len(found) - 1)
        return found[1:]

    def test_each_kind(self):
        for kind, form in EXPECTED_KINDS.items():
            with self.subTest(kind=kind):
                numbers = [1] * form[0][-1]
                due = [3] if form[3] else []
                labels = range(2, 33, 2) if kind == 11 else form[1]
                for k in labels:
                    numbers[k] = 0 if k % 4 == 0 else 4
                    due.append(numbers[k])
                if kind == 14:
                    due = [0, 1, 2, 3, 4]
                told = [end(), end(), block(kind, numbers, READS if form[2] else []), end(), end()]
                self.assertEqual(self.of(2, *told), sorted(set(due)))

    def test_what_only_leads_on(self):
        self.assertEqual(self.of(0, when(2, ZERO), end(), end()), [2])
        self.assertEqual(self.of(0, when(2, ONE), end(), end()), [1])
        self.assertEqual(self.of(0, wait(ONE), end()), [1])
        self.assertEqual(self.of(0, hold(ZERO), end()), [1])

    def test_others(self):
        self.assertEqual(self.of(0, wait(ZERO), end()), [])
        self.assertEqual(self.of(0, wait(READS), end()), [1])
        self.assertEqual(self.of(0, wait([]), end()), [1])
        self.assertEqual(self.of(0, hold(ONE), end()), [1])
        self.assertEqual(self.of(0, hold(number(-1)), end()), [1])
        self.assertEqual(self.of(0, when(2, READS), end(), end()), [1, 2])

    def test_never_behind_the_end(self):
        for final in (create(), plain(), wait(ONE), hold(ONE), when(0, ONE), wait(READS)):
            self.assertEqual(self.of(1, end(), final), [])
        self.assertEqual(self.of(1, end(), when(0, READS)), [0])
        self.assertEqual(self.of(0, back()), [0])
        self.assertEqual(last(end(), plain(), next_of(1)), [0])

    def test_rising_and_each_once(self):
        self.assertEqual(last(choose(3, 1, 3, 2, 1), end(), end(), end(), next_of(0)), listed(1, 2, 3))
        self.assertEqual(last(block(15, [0, 1]), end(), next_of(0)), listed(1))
        self.assertEqual(last(end(), block(15, [0, 0]), end(), next_of(1)), listed(0, 2))
        self.assertEqual(last(create(), match(1), end(), next_of(1)), listed(1, 2))

    def test_a_call(self):
        self.assertEqual(last(call(2), end(), end(), next_of(0)), listed(2))

    def test_a_back(self):
        self.assertEqual(last(*[back()] * 200, next_of(7)), listed(*range(200)))
        self.assertEqual(last(create(0), back(), end(), next_of(1)), listed(0, 1, 2))

    def test_by_a_table(self):
        told = [wait(ONE + [7, 0]), end(), table(2, [], [0, 1])]
        self.assertEqual(last(*told[:2], next_of(0)), listed(1))
        self.assertEqual(last(*told, next_of(0)), listed())

    def test_behind_work(self):
        told = [create(), when(4, ZERO), when(2, READS + ZERO + [4, 2]), go(2), go(5), end()]
        self.assertEqual(last(*told, next_of(1)), listed(4))
        self.assertEqual(last(*told, DECIDE, next_of(1)), listed(4))
        self.assertEqual(last(*told, SHORT, next_of(1)), listed(5))
        self.assertEqual(last(*told, DROP, next_of(0)), listed(1))
        self.assertEqual(last(*told, PASS, next_of(1)), listed())
        self.assertEqual(last(*told, PASS, AGAIN, next_of(1)), listed(4))


class Live(unittest.TestCase):
    def test_creates(self):
        for rate in (1, BIG):
            self.assertEqual(live(create(rate), end()), [0, 1])
        for rate in (0, -1, -BIG):
            self.assertEqual(live(create(rate), end()), [])
        self.assertEqual(live(block(0, [1, 1, 1, 0, 1]), end()), [])

    def test_ways_from_them(self):
        self.assertEqual(live(end(), create(), go(4), end(), end()), [1, 2, 4])
        self.assertEqual(live(create(), choose(3, 4), plain(), end(), end()), [0, 1, 3, 4])
        self.assertEqual(live(create(), match(3), end(), end()), [0, 1, 2, 3])
        self.assertEqual(live(create(), call(3), end(), end()), [0, 1, 3])
        self.assertEqual(live(end(), create(), back(), end()), [0, 1, 2, 3])
        self.assertEqual(live(create(), wait(ZERO), end()), [0, 1])
        self.assertEqual(live(plain(), create(), go(0)), [0, 1, 2])

    def test_listed(self):
        self.assertEqual(last(create(0), end(), LIVE), listed())
        self.assertEqual(last(end(), create(), go(0), LIVE), listed(0, 1, 2))
        self.assertEqual(last(*[create()] * 200, LIVE), listed(*range(200)))

    def test_more_than_one_create(self):
        self.assertEqual(live(create(), end(), plain(), create(), end(), create(0), plain()), [0, 1, 3, 4])

    def test_behind_work(self):
        told = [end(), create(), when(5, ZERO), plain(), end(), go(6), end(), go(7)]
        self.assertEqual(live(*told), [1, 2, 5, 6])
        self.assertEqual(live(*told, DECIDE), [1, 2, 5, 6])
        self.assertEqual(live(*told, SHORT), [1, 2, 6])
        self.assertEqual(live(*told, DROP), [0, 1])
        self.assertEqual(live(*told, PASS, AGAIN), [1, 2, 5, 6])


class Idle(unittest.TestCase):
    def test_blocks_that_lead_forward(self):
        self.assertEqual(idle(create(), wait(ONE), hold(ZERO), go(4), end()), [1, 2, 3])
        self.assertEqual(idle(create(), go(3), end(), end()), [1])

    def test_block_0(self):
        self.assertEqual(idle(wait(ONE), plain(), create(), go(0)), [0])

    def test_blocks_that_lead_back_or_to_themselves(self):
        self.assertEqual(idle(create(), plain(), go(1)), [])
        self.assertEqual(idle(create(), go(1)), [])
        self.assertEqual(idle(create(), wait(ONE)), [])
        self.assertEqual(idle(create(), go(2), go(1)), [])

    def test_a_live_block_between_that_isn_t_idle(self):
        told = [create(), block(15, [0, 3]), go(4), plain(), end()]
        self.assertEqual(idle(*told), [])
        told = [create(), block(15, [0, 3]), go(5), hold(ZERO), go(5), end()]
        self.assertEqual(idle(*told), [2, 3, 4])

    def test_blocks_that_aren_t_live(self):
        self.assertEqual(idle(create(), end(), go(3), end()), [])
        self.assertEqual(idle(create(), go(4), go(5), plain(), end(), end()), [1])

    def test_a_live_match_s_label(self):
        self.assertEqual(idle(create(), match(2), wait(ONE), end()), [])
        self.assertEqual(idle(create(), wait(ONE), end(), match(1)), [1])
        self.assertEqual(idle(create(), block(15, [0, 2]), wait(ONE), end()), [2])

    def test_one_that_is_held_holds_those_before(self):
        self.assertEqual(idle(create(), wait(ONE), match(4), wait(ONE), wait(ONE), end()), [1])
        self.assertEqual(idle(create(), match(4), go(5), end(), wait(ONE), end()), [])

    def test_listed(self):
        self.assertEqual(last(create(), end(), IDLE), listed())
        self.assertEqual(last(create(), wait(ONE), go(3), end(), IDLE), listed(1, 2))
        chain = [create()] + [wait(ONE)] * 198
        self.assertEqual(last(*chain, end(), IDLE), listed(*range(1, 199)))
        self.assertEqual(last(*chain, wait(ONE), IDLE), listed(*range(1, 199)))
        self.assertEqual(last(*chain, go(1), IDLE), listed())

    def test_if_frozen_too(self):
        self.assertEqual(idle(create(), wait(ONE), back()), [1])
        self.assertEqual(idle(create(), wait(ONE), call(0)), [1])

    def test_behind_work(self):
        told = [create(), wait(ONE + ONE + [4, 0]), when(4, ZERO), end(), go(5), end()]
        self.assertEqual(idle(*told), [1, 2, 4])
        self.assertEqual(idle(*told, FOLD), [1, 2, 4])
        self.assertEqual(idle(*told, DECIDE), [1, 2, 4])
        self.assertEqual(idle(*told, SHORT), [1, 2])
        self.assertEqual(idle(*told, DROP), [])
        self.assertEqual(idle(*told, PASS, AGAIN), [1, 2, 4])


class Rings(unittest.TestCase):
    def of(self, *told):
        return last(*told, RINGS)

    def test_none(self):
        self.assertEqual(self.of(create(), end()), listed())
        self.assertEqual(self.of(create(), plain(), go(1)), listed())
        self.assertEqual(self.of(back()), listed())

    def test_one_block(self):
        self.assertEqual(self.of(go(0)), listed(0))
        self.assertEqual(self.of(end(), when(1, ZERO)), listed(1))
        self.assertEqual(self.of(end(), when(1, ONE)), listed())
        self.assertEqual(self.of(end(), when(1, READS)), listed())

    def test_each_kind_that_leads_on(self):
        self.assertEqual(self.of(end(), wait(ONE), hold(HALF), when(0, ONE), when(5, ZERO), go(1)), listed(1, 2, 3, 4, 5))
        for broken in (wait(ZERO), wait(READS), hold(ONE), hold(number(-1)), when(1, READS), plain()):
            self.assertEqual(self.of(end(), wait(ONE), broken, go(1)), listed())

    def test_what_only_leads_into_a_ring(self):
        self.assertEqual(self.of(go(2), go(0), go(3), go(2), go(3)), listed(2, 3))

    def test_more_than_one(self):
        self.assertEqual(self.of(go(4), go(1), go(3), go(2), go(0), end(), go(5)), listed(0, 1, 2, 3, 4))

    def test_behind_the_end(self):
        self.assertEqual(self.of(go(1), wait(ONE)), listed())
        self.assertEqual(self.of(wait(ONE)), listed())
        self.assertEqual(self.of(go(0), wait(ONE)), listed(0))

    def test_blocks_that_aren_t_live(self):
        self.assertEqual(self.of(create(), end(), go(3), go(2)), listed(2, 3))

    def test_200_blocks(self):
        chain = [go(i + 1) for i in range(199)]
        self.assertEqual(self.of(*chain, go(0)), listed(*range(200)))
        self.assertEqual(self.of(*chain, go(199)), listed(199))
        self.assertEqual(self.of(*chain, go(198)), listed(198, 199))
        self.assertEqual(self.of(*chain, go(1)), listed(*range(1, 200)))
        self.assertEqual(self.of(*chain, wait(ONE)), listed())

    def test_behind_work(self):
        told = [create(), wait(ONE + ONE + [4, 0]), when(1, ZERO), end(), go(4)]
        for work in ([], [FOLD], [DECIDE], [SHORT]):
            self.assertEqual(self.of(*told, *work), listed(1, 2, 4))
        self.assertEqual(self.of(*told, DROP), listed(1, 2))
        self.assertEqual(self.of(*told, PASS), listed(1, 2))
        self.assertEqual(self.of(*told, PASS, AGAIN), listed(1, 2, 4))


class ByATable(unittest.TestCase):
    def test_each_question_about_the_whole_image(self):
        told = [create(), when(3, ONE + [7, 0]), back(), wait(ONE + [7, 1]), go(3)]
        tables = [table(2, [], [0, 1]), table(2, [], [5, 1])]
        for question, bare, full in (
            (SIZE, [5, 5, 0, 1], [5, 5, 2, 0]), (LIVE, listed(0, 1, 2, 3, 4), listed(0, 1, 3, 4)),
            (RINGS, listed(), listed(3, 4)),
        ):
            with self.subTest(question=question):
                self.assertEqual(last(*told, question), bare)
                self.assertEqual(last(*told, *tables, question), full)
        told = [create(), when(3, ONE + [7, 0]), back(), end()]
        self.assertEqual(last(*told, IDLE), listed())
        self.assertEqual(last(*told, tables[0], IDLE), listed(1))


class Told(unittest.TestCase):
    def test_what_look_answers_of_each(self):
        told = [create(), block(35, [1, 2, 3, 0], READS), block(44, [5, 6, 7]), plain()]
        due = shown(0, [0, 0, 0, 1, 0]) + shown(35, [1, 2, 3, 0], READS) + shown(44, [5, 6, 7]) + shown(9)
        self.assertEqual(last(*told, TOLD), [4] + due)

    def test_one_block(self):
        self.assertEqual(last(go(0), TOLD), [1, 3, 1, 0, 0])

    def test_200_blocks(self):
        self.assertEqual(last(*[back()] * 200, TOLD), [200] + shown(14, [0]) * 200)

    def test_the_image_now(self):
        told = [create(), wait(ONE + ONE + [4, 0]), go(3), go(4), end()]
        first = shown(0, [0, 0, 0, 1, 0])
        old = shown(5, [], ONE + ONE + [4, 0])
        rest = shown(3, [3]) + shown(3, [4]) + shown(17, [0])
        self.assertEqual(last(*told, TOLD), [5] + first + old + rest)
        self.assertEqual(last(*told, FOLD, TOLD), [5] + first + shown(5, [], number(2)) + rest)
        self.assertEqual(last(*told, DECIDE, TOLD), [5] + first + shown(3, [2]) + rest)
        self.assertEqual(last(*told, SHORT, TOLD), [5] + first + old + shown(3, [4]) * 2 + shown(17, [0]))
        self.assertEqual(last(*told, DROP, TOLD), [2] + first + shown(17, [0]))
        self.assertEqual(last(*told, PASS, TOLD), [2] + first + shown(17, [0]))
        self.assertEqual(last(*told, PASS, AGAIN, TOLD), [5] + first + old + rest)
        self.assertEqual(last(*told, PASS, CLEAR, end(), TOLD), [1] + shown(17, [0]))


class Stays(unittest.TestCase):
    def test_live_ones_that_aren_t_idle(self):
        self.assertEqual(stays(create(), wait(ONE), end(), plain()), [0, 2])

    def test_all_if_none_is_live(self):
        self.assertEqual(stays(create(0), wait(ONE), end()), [0, 1, 2])

    def test_all_if_frozen(self):
        self.assertEqual(stays(create(), wait(ONE), call(0), plain()), [0, 1, 2, 3])


if __name__ == "__main__":
    unittest.main()
