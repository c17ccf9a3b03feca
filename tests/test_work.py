"""The calls fold, decide, short, drop, pass, again and clear: what they answer, and the image now,
places and origins behind them."""

import unittest

from helper import (
    AGAIN, BIG, CLEAR, DECIDE, DROP, FOLD, PASS, SHORT, SIZE, back, block, call, choose, create, end, go, hold,
    image_after, last, leads, look, match, number, origin, place, plain, run, shown, table, wait, when,
)

ONE = number(1)
ZERO = number(0)
READS = [1, 0]
SUM = ONE + ONE + [4, 0]
NOUGHT = ONE + ONE + [4, 1]

CREATE = shown(0, [0, 0, 0, 1, 0])
PLAIN = shown(9)
END = shown(17, [0])


def go_shown(label):
    return shown(3, [label])


class Cases(unittest.TestCase):
    def work(self, told, work, answer, image):
        """The work's last answer, and what each block is then."""
        self.assertEqual(run(*told, *work)[-1], answer)
        self.assertEqual(image_after(told, work, len(image)), image)


class Refusals(unittest.TestCase):
    def test_an_image_that_isn_t_ready(self):
        for told in ([], [go(1)], [create(), choose(0, 2)], [create(), CLEAR]):
            for work in (FOLD, DECIDE, SHORT, DROP, PASS):
                self.assertEqual(last(*told, work), [-5])

    def test_again_and_clear_are_never_refused(self):
        for told in ([], [go(1)], [create()], [create(), PASS]):
            for one in (AGAIN, CLEAR):
                self.assertEqual(run(*told, one, one)[-2:], [[0], [0]])


class Fold(Cases):
    def test_each_block_s_code(self):
        told = [create(), hold(SUM), block(6, [3], READS + SUM + [4, 0]), block(35, [1, 2, 3, 0], SUM), plain(), end()]
        self.work(told, [FOLD], [0, 3], [
            CREATE, shown(1, [], number(2)), shown(6, [3], READS + number(2) + [4, 0]),
            shown(35, [1, 2, 3, 0], number(2)), PLAIN, END,
        ])

    def test_codes_that_stay_don_t_count(self):
        told = [create(), hold(ONE), hold(READS), hold([]), hold([1, 0, 6, 0] + SUM)]
        self.work(told, [FOLD], [0, 0], [
            CREATE, shown(1, [], ONE), shown(1, [], READS), shown(1), shown(1, [], [1, 0, 6, 0] + SUM),
        ])

    def test_twice(self):
        self.assertEqual(run(create(), hold(SUM), FOLD, FOLD)[2:], [[0, 1], [0, 0]])

    def test_dead_blocks_and_frozen_images_too(self):
        self.work([create(), call(0), hold(SUM)], [FOLD], [0, 1], [CREATE, shown(13, [0, 0]), shown(1, [], number(2))])


class Decide(Cases):
    def test_each_kind_that_only_leads_on(self):
        told = [create(), when(6, NOUGHT), when(0, SUM), wait(ONE), hold(ZERO), go(6), end()]
        self.work(told, [DECIDE], [0, 4], [
            CREATE, go_shown(6), go_shown(3), go_shown(4), go_shown(5), go_shown(6), END,
        ])

    def test_to_the_very_next_one(self):
        told = [create(), wait(ONE), go(3), end()]
        self.work(told, [DECIDE], [0, 1], [CREATE, go_shown(2), go_shown(3), END])

    def test_others_stay(self):
        told = [create(), when(0, READS), wait(ZERO), hold(ONE), wait([]), hold(number(-1)), block(8, [], ONE)]
        self.work(told, [DECIDE], [0, 0], [
            CREATE, shown(4, [0], READS), shown(5, [], ZERO), shown(1, [], ONE), shown(5), shown(1, [], number(-1)),
            shown(8, [], ONE),
        ])

    def test_behind_the_end_it_stays(self):
        for final, image in (
            (wait(ONE), shown(5, [], ONE)), (hold(ZERO), shown(1, [], ZERO)), (when(0, ONE), shown(4, [0], ONE)),
        ):
            self.work([create(), final], [DECIDE], [0, 0], [CREATE, image])
        self.work([create(), when(0, ZERO)], [DECIDE], [0, 1], [CREATE, go_shown(0)])

    def test_a_ring(self):
        told = [create(), wait(ONE), when(1, ZERO)]
        self.work(told, [DECIDE], [0, 2], [CREATE, go_shown(2), go_shown(1)])
        self.work([create(), when(1, ZERO)], [DECIDE], [0, 1], [CREATE, go_shown(1)])

    def test_dead_blocks_and_frozen_images_too(self):
        told = [create(), back(), wait(ONE), end()]
        self.work(told, [DECIDE], [0, 1], [CREATE, shown(14, [0]), go_shown(3), END])
        self.work([create(0), wait(ONE), end()], [DECIDE], [0, 1], [shown(0, [0] * 5), go_shown(2), END])


class Short(Cases):
    def test_each_label(self):
        told = [
            create(), choose(7, 8, 9), block(15, [7, 7]), block(23, [7, 7, 7, 7]), block(38, [7, 7, 7]),
            when(7, READS), call(7), go(8), wait(ONE), end(),
        ]
        self.work(told, [SHORT], [0, 8], [
            CREATE, shown(11, [7, 1, 9, 1, 9, 1, 9]), shown(15, [7, 9]), shown(23, [7, 7, 9, 7]), shown(38, [7, 9, 7]),
            shown(4, [9], READS), shown(13, [0, 9]), go_shown(9), shown(5, [], ONE), END,
        ])

    def test_a_match_s_label_stays(self):
        told = [create(), match(3), plain(), go(4), end()]
        self.work(told, [SHORT], [0, 0], [CREATE, shown(41, [3]), PLAIN, go_shown(4), END])

    def test_constant_ifs(self):
        told = [create(), when(3, ONE), when(4, ZERO), go(5), go(5), end()]
        self.work(told, [SHORT], [0, 2], [
            CREATE, shown(4, [5], ONE), shown(4, [5], ZERO), go_shown(5), go_shown(5), END,
        ])

    def test_rings_stay(self):
        told = [create(), go(2), go(3), go(2), choose(1, 2, 3)]
        self.work(told, [SHORT], [0, 0], [
            CREATE, go_shown(2), go_shown(3), go_shown(2), shown(11, [7, 1, 1, 1, 2, 1, 3]),
        ])

    def test_as_they_were_before(self):
        told = [go(1), go(2), go(3), go(4), end(), go(0)]
        self.work(told, [SHORT], [0, 4], [go_shown(4), go_shown(4), go_shown(4), go_shown(4), END, go_shown(4)])

    def test_to_a_block_that_leads_behind_the_end(self):
        told = [create(), go(2), go(3), wait(ONE)]
        self.work(told, [SHORT], [0, 1], [CREATE, go_shown(3), go_shown(3), shown(5, [], ONE)])

    def test_twice(self):
        self.assertEqual(run(go(1), go(2), end(), SHORT, SHORT)[3:], [[0, 1], [0, 0]])

    def test_label_199(self):
        told = [create(), go(199)] + [plain()] * 197 + [go(0)]
        self.assertEqual(run(*told, SHORT, look(1), look(199))[200:], [[0, 1], go_shown(0), go_shown(0)])


class Drop(Cases):
    def test_dead_blocks(self):
        told = [plain(), create(), go(4), plain(), plain(), end(), plain()]
        self.work(told, [DROP], [0, 4], [CREATE, PLAIN, END])

    def test_idle_blocks(self):
        told = [create(), wait(ONE), hold(ZERO), when(0, ONE), go(5), end()]
        self.work(told, [DROP], [0, 4], [CREATE, END])

    def test_labels_are_numbered_anew(self):
        told = [create(), wait(ONE), choose(3, 4, 5), plain(), go(6), plain(), end(), end()]
        self.work(told, [DROP], [0, 2], [CREATE, shown(11, [7, 1, 2, 1, 5, 1, 4]), PLAIN, go_shown(5), PLAIN, END])

    def test_a_match_s_label_becomes_the_block_s_number(self):
        told = [create(), wait(ONE), match(3), go(5), end(), end()]
        self.work(told, [DROP], [0, 2], [CREATE, shown(41, [2]), go_shown(3), END])

    def test_other_labels_become_where_they_led(self):
        told = [create(), wait(ONE), match(4), block(15, [0, 4]), go(5), end()]
        self.work(told, [DROP], [0, 1], [CREATE, shown(41, [3]), shown(15, [0, 4]), go_shown(4), END])

    def test_a_constant_if_whose_label_is_taken_out(self):
        told = [create(), go(3), end(), when(2, ONE)]
        self.work(told, [DROP], [0, 2], [CREATE, shown(4, [1], ONE)])
        told = [create(), plain(), when(4, ONE), go(1), end()]
        self.work(told, [DROP], [0, 1], [CREATE, PLAIN, shown(4, [2], ONE), go_shown(1)])

    def test_a_constant_if_whose_label_leads_to_what_stays(self):
        told = [create(), plain(), when(4, ONE), go(1), go(1)]
        self.work(told, [DROP], [0, 1], [CREATE, PLAIN, shown(4, [1], ONE), go_shown(1)])

    def test_codes_and_other_numbers_stay(self):
        told = [create(), wait(ONE), block(35, [7, 8, 9, 3], SUM), end()]
        self.work(told, [DROP], [0, 1], [CREATE, shown(35, [7, 8, 9, 2], SUM), END])

    def test_if_all_stay_nothing_is_changed(self):
        told = [create(), block(15, [0, 3]), plain(), go(1)]
        self.work(told, [DROP], [0, 0], [CREATE, shown(15, [0, 3]), PLAIN, go_shown(1)])

    def test_no_live_block(self):
        told = [create(0), wait(ONE), go(1), end()]
        self.work(told, [DROP], [0, 0], [shown(0, [0] * 5), shown(5, [], ONE), go_shown(1), END])
        self.work([end()], [DROP], [0, 0], [END])

    def test_a_frozen_image(self):
        for kept, image in ((call(1), shown(13, [0, 1])), (back(), shown(14, [0]))):
            told = [create(), wait(ONE), kept, plain()]
            self.work(told, [DROP], [0, 0], [CREATE, shown(5, [], ONE), image, PLAIN])

    def test_a_call_that_isn_t_live_is_taken_out(self):
        self.work([create(), end(), call(2), back()], [DROP], [0, 2], [CREATE, END])

    def test_a_ring_stays(self):
        told = [create(), wait(ONE), go(1), end()]
        self.work(told, [DROP], [0, 1], [CREATE, shown(5, [], ONE), go_shown(1)])

    def test_a_last_block_that_leads_behind_the_end_stays(self):
        told = [create(), go(3), plain(), wait(ONE)]
        self.work(told, [DROP], [0, 2], [CREATE, shown(5, [], ONE)])

    def test_twice(self):
        self.assertEqual(run(create(), wait(ONE), end(), plain(), DROP, DROP)[4:], [[0, 2], [0, 0]])

    def test_200_blocks(self):
        told = [create()] + [go(i + 1) for i in range(1, 199)] + [end()]
        self.work(told, [DROP], [0, 198], [CREATE, END])
        told = [create(), go(199)] + [plain()] * 197 + [end()]
        self.work(told, [DROP], [0, 198], [CREATE, END])


MODEL = [
    create(), when(5, NOUGHT), plain(), wait(SUM), go(8), choose(3, 6), hold(NOUGHT), go(4), when(2, READS + SUM + [4, 0]),
    end(),
]


class Together(Cases):
    def test_one_behind_another(self):
        found = run(*MODEL, FOLD, DECIDE, SHORT, DROP)
        self.assertEqual(found[10:], [[0, 4], [0, 3], [0, 5], [0, 3]])
        self.assertEqual(image_after(MODEL, [FOLD, DECIDE, SHORT], 10), [
            CREATE, go_shown(5), PLAIN, go_shown(8), go_shown(8), shown(11, [7, 1, 8, 1, 8]), go_shown(8), go_shown(8),
            shown(4, [2], READS + number(2) + [4, 0]), END,
        ])
        self.assertEqual(image_after(MODEL, [FOLD, DECIDE, SHORT, DROP], 7), [
            CREATE, go_shown(4), PLAIN, go_shown(5), shown(11, [7, 1, 5, 1, 5]),
            shown(4, [2], READS + number(2) + [4, 0]), END,
        ])

    def test_pass_is_the_four_in_order(self):
        self.assertEqual(last(*MODEL, PASS), [0, 4, 3, 5, 3])
        self.assertEqual(image_after(MODEL, [PASS], 7), image_after(MODEL, [FOLD, DECIDE, SHORT, DROP], 7))

    def test_the_order_of_a_pass_matters(self):
        told = [create(), when(3, ZERO), end(), go(4), end()]
        self.work(told, [PASS], [0, 0, 1, 1, 3], [CREATE, END])
        self.work(told, [SHORT, PASS], [0, 0, 1, 0, 3], [CREATE, END])
        self.work(told, [SHORT, DECIDE], [0, 1], [CREATE, go_shown(4), END, go_shown(4), END])
        self.work(told, [DECIDE], [0, 1], [CREATE, go_shown(3), END, go_shown(4), END])

    def test_pass_behind_pass(self):
        self.assertEqual(last(*MODEL, PASS, PASS), [0, 0, 0, 0, 0])
        self.assertEqual(last(create(), wait(ONE), end(), PASS, PASS), [0, 0, 0, 0, 0])

    def test_other_orders(self):
        told = [create(), wait(ONE), choose(1, 3), go(4), end()]
        self.work(told, [DROP], [0, 2], [CREATE, shown(11, [7, 1, 1, 1, 2]), END])
        self.work(told, [DROP, SHORT, DECIDE, FOLD], [0, 0], [CREATE, shown(11, [7, 1, 1, 1, 2]), END])
        self.work(told, [SHORT, DROP], [0, 2], [CREATE, shown(11, [7, 1, 1, 1, 2]), END])

    def test_work_goes_on_from_where_it_was(self):
        told = [create(), wait(SUM), end(), plain()]
        self.assertEqual(run(*told, FOLD, look(1), DECIDE, look(1), DROP, SIZE, look(1))[4:], [
            [0, 1], shown(5, [], number(2)), [0, 1], go_shown(2), [0, 2], [2, 4, 0, 0], END,
        ])

    def test_tables(self):
        told = [table(2, [], [5, 1]), create(), wait(ONE + [7, 0]), hold(number(2) + [7, 0]), end()]
        self.work(told, [PASS], [0, 1, 1, 0, 1], [CREATE, shown(1, [], number(2) + [7, 0]), END])


class AgainAndClear(unittest.TestCase):
    def test_again_brings_back_what_was_told(self):
        told = [create(), wait(SUM), table(2, [], [1, 1]), end(), plain()]
        found = run(*told, PASS, SIZE, AGAIN, SIZE, look(1), leads(1), PASS, SIZE)
        self.assertEqual(found[5:], [
            [0, 1, 1, 0, 2], [2, 4, 1, 0], [0], [4, 4, 1, 0], shown(5, [], SUM), [2, 2, 1, 2], [0, 1, 1, 0, 2],
            [2, 4, 1, 0],
        ])

    def test_again_each_work(self):
        told = [create(), wait(SUM), go(3), go(4), end()]
        for work in (FOLD, DECIDE, SHORT, DROP):
            found = run(*told, work, AGAIN, *[look(i) for i in range(5)], work)
            self.assertEqual(found[7:12], [CREATE, shown(5, [], SUM), go_shown(3), go_shown(4), END])
            self.assertEqual(found[12], found[5])

    def test_again_lets_more_be_told(self):
        told = [create(), go(2), end()]
        self.assertEqual(run(*told, PASS, AGAIN, go(9), PASS, end())[4:], [[0], [3], [-5], [4]])

    def test_again_before_anything(self):
        self.assertEqual(run(AGAIN, create(), AGAIN, SIZE), [[0], [0], [0], [1, 1, 0, 0]])

    def test_clear(self):
        told = [create(), table(2, [], [1, 1]), PASS]
        self.assertEqual(run(*told, CLEAR, SIZE, PASS, look(0), create(), SIZE)[3:], [
            [0], [-5], [-5], [-5], [0], [1, 1, 0, 0],
        ])

    def test_clear_gives_room(self):
        told = [create()] * 200
        self.assertEqual(run(*told, create(), CLEAR, create())[200:], [[-2], [0], [0]])

    def test_again_behind_clear(self):
        self.assertEqual(run(create(), PASS, CLEAR, AGAIN, SIZE)[3:], [[0], [-5]])


NONE = -10


class PlacesAndOrigins(unittest.TestCase):
    def check(self, calls, places, origins):
        """What place answers of each told block, origin of each block now, and each of the one behind."""
        asked = [place(i) for i in range(len(places) + 1)] + [origin(i) for i in range(len(origins) + 1)]
        found = run(*calls, *asked)[len(calls):]
        self.assertEqual(found, [[n] for n in places + [-6] + origins + [-6]])

    def test_at_first_themselves(self):
        told = [create(), wait(SUM), end(), plain()]
        for work in ([], [FOLD], [DECIDE]):
            self.check(told + work, [0, 1, 2, 3], [0, 1, 2, 3])

    def test_short(self):
        told = [create(), wait(ONE), go(3), end(), go(4)]
        self.check(told + [SHORT], [0, 3, 3, 3, 4], [0, 1, 2, 3, 4])

    def test_short_of_rings_and_behind_the_end(self):
        told = [go(1), go(2), go(1), end(), go(5), wait(ONE)]
        self.check(told + [SHORT], [0, 1, 2, 3, 5, 5], [0, 1, 2, 3, 4, 5])

    def test_drop(self):
        told = [plain(), create(), wait(ONE), go(5), plain(), end(), go(5)]
        self.check(told + [DROP], [NONE, 0, 1, 1, NONE, 1, NONE], [1, 5])

    def test_drop_behind_short(self):
        told = [plain(), create(), wait(ONE), go(5), plain(), end(), go(5)]
        self.check(told + [SHORT, DROP], [NONE, 0, 1, 1, NONE, 1, 1], [1, 5])

    def test_pass(self):
        told = [plain(), create(), wait(SUM), go(5), plain(), end(), go(5)]
        self.check(told + [PASS], [NONE, 0, 1, 1, NONE, 1, 1], [1, 5])
        self.check(MODEL + [PASS], [0, 4, 2, 5, 5, 4, 5, 5, 5, 6], [0, 1, 2, 3, 5, 8, 9])

    def test_none_stays_none(self):
        calls = [create(), wait(ONE), end(), plain()]
        for work in (DROP, SHORT, DROP, PASS):
            calls.append(work)
            self.check(calls, [0, 1, 1, NONE], [0, 2])

    def test_drop_behind_drop(self):
        # The first drop makes the go lead straight to the plain block: the wait behind is dead at the second.
        told = [end(), create(), plain(), go(5), end(), wait(ONE), go(2), wait(ONE)]
        self.check(told + [DROP], [NONE, 0, 1, 1, NONE, 1, 1, NONE], [1, 2, 3, 5, 6])
        self.check(told + [DROP, DROP], [NONE, 0, 1, 1, NONE, 1, 1, NONE], [1, 2, 3])

    def test_if_all_stay_places_do_too(self):
        told = [create(), block(15, [0, 3]), plain(), go(1)]
        self.check(told + [DROP], [0, 1, 2, 3], [0, 1, 2, 3])
        told = [create(), wait(ONE), back(), end()]
        self.check(told + [DROP], [0, 1, 2, 3], [0, 1, 2, 3])
        told = [create(0), wait(ONE), end()]
        self.check(told + [DROP], [0, 1, 2], [0, 1, 2])

    def test_a_live_block_that_stays_and_leads_elsewhere(self):
        told = [create(), wait(ONE), block(15, [0, 4]), plain(), go(2)]
        self.check(told + [DROP], [0, 1, 1, 2, 1], [0, 2, 3, 4])

    def test_again(self):
        told = [create(), wait(ONE), end(), plain()]
        self.check(told + [PASS], [0, 1, 1, NONE], [0, 2])
        for work in ([], [FOLD], [DECIDE]):
            self.check(told + [PASS, AGAIN] + work, [0, 1, 2, 3], [0, 1, 2, 3])
        self.check(told + [PASS, AGAIN, plain()], [0, 1, 2, 3, 4], [0, 1, 2, 3, 4])
        self.check(told + [PASS, AGAIN, SHORT], [0, 2, 2, 3], [0, 1, 2, 3])
        self.check(told + [PASS, AGAIN, PASS], [0, 1, 1, NONE], [0, 2])

    def test_clear(self):
        told = [create(), wait(ONE), end(), plain()]
        self.assertEqual(run(*told, PASS, CLEAR, place(0), origin(0), place(3))[6:], [[-5], [-5], [-5]])
        self.check(told + [PASS, CLEAR, create(), end()], [0, 1], [0, 1])
        self.check(told + [PASS, CLEAR, plain(), create(), DROP], [NONE, 0], [1])

    def test_200_blocks(self):
        told = [create()] + [wait(ONE)] * 150 + [end()] + [plain()] * 48
        asked = [place(i) for i in (0, 1, 150, 151, 152, 199, 200)] + [origin(i) for i in (0, 1, 2)]
        self.assertEqual(run(*told, PASS, *asked)[200:], [
            [0, 0, 150, 149, 198], [0], [1], [1], [1], [NONE], [NONE], [-6], [0], [151], [-6],
        ])

    def test_which_refusal(self):
        for i in (-1, 0, 1, 2, 99):
            self.assertEqual(last(create(), go(2), place(i)), [-5])
            self.assertEqual(last(create(), go(2), origin(i)), [-5])
        told = [create(), end(), plain()]
        self.assertEqual(run(*told, place(-1), place(2), place(3))[3:], [[-6], [2], [-6]])
        found = run(*told, DROP, *[place(i) for i in (-BIG, -1, 0, 1, 2, 3, BIG)])
        self.assertEqual(found[4:], [[-6], [-6], [0], [1], [NONE], [-6], [-6]])


if __name__ == "__main__":
    unittest.main()
