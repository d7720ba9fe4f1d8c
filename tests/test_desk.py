"""The line that is handed in, the line that is given back, and what holds of all calls."""

import unittest

from netduel.desk import answers
from play import (AGAIN, CRASH, DELIVER, DOUBLE, DROP, EVERY_CALL_BUT_SET, HOUSE, LEAST, LOG, MACHINE, MOST, NET, NUDGE,
                  OPENING, PRESS, RESTART, ROUNDS, SET, TICK, Play, last_reply, line, replies)

GOOD_SET = (SET, 5000, 6000, 10, 20)
BAD_SET = (SET, 0, 6000, 10, 20)


class WholeLine(unittest.TestCase):
    def test_one_call(self):
        self.assertEqual(answers([0, 1000, 1000, 0, 0]), [1, 0])

    def test_a_refusal_is_its_number_alone(self):
        self.assertEqual(answers([1, 5]), [1, -5])

    def test_count_then_numbers_call_by_call(self):
        given = answers(line(
            (SET, 1000, 2000, 5, 7),  # 0
            (TICK, 30),               # 0, 30, 0
            (AGAIN, 0),               # message 1
            (AGAIN, 1),               # message 2
            (DELIVER, 1),             # message 3, the news of side 0
            (DELIVER, 2),             # message 4; the clock runs since 30
            (NUDGE,),                 # messages 5 and 6
            (DOUBLE, 3),              # message 7
            (DROP, 5),
            (DROP, 5),
            (DELIVER, 3),             # machine 0 is on, learned at 30; message 8
            (TICK, 12),
            (PRESS, 0, 17),           # message 9
            (PRESS, 0, 18),
            (DELIVER, 9),
            (TICK, 2007),             # just what side 1 has with the lag
            (PRESS, 1, 1000),
        ))
        self.assertEqual(given, [
            1, 0,
            3, 0, 30, 0,
            1, 0,
            1, 0,
            1, 0,
            1, 0,
            1, 0,
            2, 0, 7,
            1, 0,
            1, -2,
            1, 0,
            3, 0, 42, 0,
            3, 0, 1, 12,
            1, -3,
            1, 0,
            3, 0, 2049, 1,
            1, -1,
        ])

    def test_it_gives_back_a_new_list_of_whole_numbers(self):
        given = answers(line(GOOD_SET, (TICK, 1)))
        self.assertIs(type(given), list)
        self.assertEqual([type(number) for number in given], [int] * len(given))

    def test_four_hundred_calls(self):
        given = replies(GOOD_SET, *[(TICK, 0)] * 399)
        self.assertEqual(given, [[0]] + [[0, 0, 0]] * 399)


class BeforeTheFirstSet(unittest.TestCase):
    def test_each_call_but_set(self):
        for call in EVERY_CALL_BUT_SET:
            with self.subTest(call=call):
                self.assertEqual(replies(call), [[-5]])

    def test_whatever_its_numbers_are(self):
        for call in EVERY_CALL_BUT_SET:
            for number in (LEAST, -1, 0, 1, 2, 5, 1000, MOST):
                numbers = (number,) * (len(call) - 1)
                with self.subTest(call=call[0], number=number):
                    self.assertEqual(replies((call[0],) + numbers), [[-5]])

    def test_behind_a_refused_set_and_ahead_of_a_good_one(self):
        for call in EVERY_CALL_BUT_SET:
            with self.subTest(call=call):
                self.assertEqual(replies(call, BAD_SET, call, GOOD_SET, (TICK, 1)),
                                 [[-5], [-1], [-5], [0], [0, 1, 0]])

    def test_nothing_of_it_is_kept(self):
        given = replies((TICK, 50), (AGAIN, 0), GOOD_SET, (TICK, 1), (DROP, 1))
        self.assertEqual(given, [[-5], [-5], [0], [0, 1, 0], [-2]])


class SettingAgain(unittest.TestCase):
    def test_a_later_set_makes_everything_new(self):
        play = Play(5000, 6000, 10, 20)
        play.ask(TICK, 40)
        play.make_moves(1, 2, 3)
        play.fill_net()
        play.ask(AGAIN, 0)
        self.assertEqual(play.net.lost, 1)
        self.assertEqual(play.ask(TICK, 100000)[2], 1)
        self.assertEqual(play.ask(SET, 7000, 8000, 1, 2), [0])
        self.assertEqual(play.state(), Play(7000, 8000, 1, 2, opened=False).state())

    def test_a_later_set_as_its_answers_show_it(self):
        given = replies((SET, 100, 100, 0, 0), *OPENING, (TICK, 100), (AGAIN, 0), (SET, 100, 100, 0, 0),
                        (TICK, 7), (PRESS, 0, 1), (DROP, 7), (AGAIN, 1), (DOUBLE, 1))
        self.assertEqual(given[9:], [[0, 100, 2], [0], [0], [0, 7, 0], [-3], [-2], [0], [0, 2]])

    def test_a_later_set_behind_all_the_other_calls(self):
        shows = ((HOUSE,), (NET,), (MACHINE, 0), (MACHINE, 1), (LOG,), (AGAIN, 1), (NET,))
        trouble = ((ROUNDS, 1), (PRESS, 0, 5), (ROUNDS, 3), (CRASH, 0), (CRASH, 1), *[(AGAIN, 0)] * 66, (TICK, 40),
                   (RESTART,))
        given = replies((SET, 9000, 9000, 5, 5), *trouble, GOOD_SET, *shows)
        self.assertEqual(given[-7:], [
            [0, 0, 0, 0, 0, 0, 0, 0, 0, 0, 0, 5000, 0, 0, 0, 0, 0, 6000, 0], [0],
            [0, 1, 0, 1, 0, 0, 0, 0, 0], [0, 1, 0, 1, 0, 0, 0, 0, 0], [0], [0], [0, 1, 0, 1, 1]])
        # The increment and the lag are the new table's too.
        moves = ((ROUNDS, 1), (PRESS, 0, 1), (TICK, 50), (ROUNDS, 1), (HOUSE,))
        self.assertEqual(last_reply((SET, 9000, 9000, 5, 5), *trouble, GOOD_SET, *moves), last_reply(GOOD_SET, *moves))

    def test_a_refused_set_behind_a_good_one_changes_nothing(self):
        play = Play(5000, 6000, 10, 20)
        play.make_moves(1, 2)
        play.ask(NUDGE)
        before = play.state()
        for numbers in ((0, 1, 0, 0), (1, 0, 0, 0), (1, 1, -1, 0), (1, 1, 0, -1), (MOST, MOST, MOST, MOST)):
            self.assertEqual(play.ask(SET, *numbers), [-1])
            self.assertEqual(play.state(), before)

    def test_a_refused_set_as_its_answers_show_it(self):
        given = replies(GOOD_SET, (TICK, 9), (AGAIN, 0), BAD_SET, (TICK, 1), (DOUBLE, 1))
        self.assertEqual(given, [[0], [0, 9, 0], [0], [-1], [0, 10, 0], [0, 2]])


class NewTable(unittest.TestCase):
    def test_what_a_set_leaves(self):
        play = Play(5000, 6000, 10, 20, opened=False)
        self.assertEqual(play.table.time, 0)
        self.assertEqual((play.numbers(), play.net.next_number, play.net.lost), ([], 1, 0))
        house = play.house
        self.assertEqual((house.log, house.result, house.runs, house.has_had(0)), ([], 0, False, 0))
        for side, bank in ((0, 5000), (1, 6000)):
            seat = play.seat(side)
            self.assertEqual((seat.epoch, seat.handled, seat.acked, seat.here), (0, 0, 0, False))
            self.assertEqual((seat.bank, seat.spent), (bank, 0))
            machine = play.machine(side)
            self.assertEqual((machine.epoch, machine.on, machine.moves), (1, False, []))
            self.assertEqual((machine.next_request, machine.request), (1, None))
            self.assertEqual((machine.learned, machine.banks, machine.result), (0, (0, 0), 0))


class Ranges(unittest.TestCase):
    def check(self, least, most, call):
        """Each end is taken; what is beyond it, by 1 or as far as numbers go, is refused and changes nothing."""
        for number in (least, most):
            with self.subTest(number=number):
                self.assertEqual(last_reply(GOOD_SET, *OPENING, call(number))[0], 0)
        for number in (LEAST, least - 1, most + 1, MOST):
            with self.subTest(number=number):
                play = Play(5000, 6000, 10, 20)
                before = play.state()
                self.assertEqual(play.ask(*call(number)), [-1])
                self.assertEqual(play.state(), before)
                self.assertEqual(last_reply(GOOD_SET, *OPENING, call(number)), [-1])

    def test_bank_of_side_0(self):
        self.check(1, 1000000000, lambda number: (SET, number, 50, 0, 0))

    def test_bank_of_side_1(self):
        self.check(1, 1000000000, lambda number: (SET, 50, number, 0, 0))

    def test_increment(self):
        self.check(0, 1000000, lambda number: (SET, 50, 50, number, 0))

    def test_lag(self):
        self.check(0, 100000, lambda number: (SET, 50, 50, 0, number))

    def test_ms(self):
        self.check(0, 1000000000, lambda number: (TICK, number))

    def test_move(self):
        self.check(0, 999, lambda number: (PRESS, 0, number))

    def test_side_of_again(self):
        self.check(0, 1, lambda number: (AGAIN, number))

    def test_side_of_crash(self):
        self.check(0, 1, lambda number: (CRASH, number))

    def test_side_of_machine(self):
        self.check(0, 1, lambda number: (MACHINE, number))

    def test_k_of_rounds(self):
        self.check(1, 10, lambda number: (ROUNDS, number))

    def test_side_of_press(self):
        # Side 1 isn't to move: its end of the range shows by -3.
        self.assertEqual(last_reply(GOOD_SET, *OPENING, (PRESS, 0, 5)), [0, 1, 0])
        self.assertEqual(last_reply(GOOD_SET, *OPENING, (PRESS, 1, 5)), [-3])
        for side in (LEAST, -2, -1, 2, 3, MOST):
            with self.subTest(side=side):
                self.assertEqual(last_reply(GOOD_SET, *OPENING, (PRESS, side, 5)), [-1])

    def test_numbers_of_messages_have_no_narrower_range(self):
        for call in (DELIVER, DROP, DOUBLE):
            for number in (LEAST, -1, 0, 2, MOST):
                with self.subTest(call=call, number=number):
                    self.assertEqual(last_reply(GOOD_SET, (AGAIN, 0), (call, number)), [-2])

    def test_the_first_set_too(self):
        self.assertEqual(replies((SET, 1, 1, 0, 0)), [[0]])
        self.assertEqual(replies((SET, 1000000000, 1000000000, 1000000, 100000)), [[0]])
        for numbers in ((0, 1, 0, 0), (1, 1000000001, 0, 0), (1, 1, 1000001, 0), (1, 1, 0, 100001)):
            self.assertEqual(replies((SET,) + numbers), [[-1]])


class NothingIsKept(unittest.TestCase):
    def test_what_is_handed_in_stays_as_it_was(self):
        calls = line(GOOD_SET, *OPENING, (PRESS, 0, 5), (DELIVER, 7), (NUDGE,), (DROP, 8), (DOUBLE, 9), BAD_SET, (NET,),
                     (HOUSE,), (CRASH, 0), (RESTART,), (ROUNDS, 2), (MACHINE, 0), (LOG,), (ROUNDS, 0))
        copy = list(calls)
        answers(calls)
        self.assertEqual(calls, copy)

    def test_the_same_calls_give_the_same_answers(self):
        first = line(GOOD_SET, *OPENING, (TICK, 11), (PRESS, 0, 5), (DELIVER, 7), (NUDGE,), (TICK, 6020))
        second = line((SET, 1, 1, 0, 0), *OPENING, (TICK, 1), (AGAIN, 0))
        given = answers(first)
        self.assertEqual(answers([1, 1]), [1, -5])
        other = answers(second)
        self.assertEqual(answers(first), given)
        self.assertEqual(answers(second), other)
        self.assertEqual(answers([4]), [1, -5])

    def test_a_list_that_is_given_back_is_the_asker_s_own(self):
        given = answers([4])
        given.append(7)
        self.assertEqual(answers([4]), [1, -5])


if __name__ == "__main__":
    unittest.main()
