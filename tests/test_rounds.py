"""rounds: all timers, then the oldest message first till the net is empty."""

import unittest

from play import (AGAIN, CRASH, DELIVER, DOUBLE, DROP, HOUSE, LOG, MACHINE, NET, NUDGE, OPENING, PRESS, RESTART, ROUNDS,
                  SET, TICK, Play, last_reply, replies)

GOOD_SET = (SET, 5000, 6000, 10, 20)


def next_number(*calls):
    """The number of the message that is sent next."""
    return last_reply(*calls, (AGAIN, 0), (NET,))[1]


class HowOften(unittest.TestCase):
    def test_one_round_of_a_new_table(self):
        given = replies(GOOD_SET, (ROUNDS, 1), (NET,), (HOUSE,), (MACHINE, 0), (MACHINE, 1), (AGAIN, 1), (NET,))
        self.assertEqual(given, [
            [0], [0], [0],
            [0, 0, 0, 1, 0, 0, 0, 1, 0, 0, 1, 5000, 0, 1, 0, 0, 1, 6000, 0],
            [0, 1, 1, 1, 0, 0, 5000, 6000, 0],
            [0, 1, 1, 1, 0, 0, 5000, 6000, 0],
            # Two hellos, news and an ack on each: six messages.
            [0], [0, 7, 2, 1, 1, 0]])

    def test_each_round_sends_anew(self):
        # From the second round on: two acks, two news, an ack on each of these.
        for many in range(1, 11):
            with self.subTest(many=many):
                self.assertEqual(next_number(GOOD_SET, (ROUNDS, many)), 6 * many + 1)
                self.assertEqual(next_number(GOOD_SET, *[(ROUNDS, 1)] * many), 6 * many + 1)

    def test_ten_at_once_are_ten_times_one(self):
        start = (GOOD_SET, (AGAIN, 0), (DOUBLE, 1), (CRASH, 0), (TICK, 9))
        shows = ((NET,), (HOUSE,), (MACHINE, 0), (MACHINE, 1), (AGAIN, 0), (NET,))
        self.assertEqual(replies(*start, (ROUNDS, 10), *shows)[6:], replies(*start, *[(ROUNDS, 1)] * 10, *shows)[15:])

    def test_no_time_goes_by(self):
        given = replies(GOOD_SET, (TICK, 70), (ROUNDS, 10), (TICK, 3), (HOUSE,))
        self.assertEqual(given[-2:], [[0, 73, 0],
                                      [0, 73, 0, 1, 3, 0, 0, 1, 0, 0, 1, 5000, 0, 1, 0, 0, 1, 6000, 0]])

    def test_refused(self):
        for many in (-1, 0, 11):
            play = Play(5000, 6000, 10, 20)
            play.ask(PRESS, 0, 5)
            before = play.state()
            self.assertEqual(play.ask(ROUNDS, many), [-1])
            self.assertEqual(play.state(), before)


class OneRound(unittest.TestCase):
    def by_hand(self, play):
        """The same by the other calls."""
        play.ask(AGAIN, 0)
        play.ask(AGAIN, 1)
        play.ask(NUDGE)
        while play.ask(NET) != [0]:
            play.ask(DELIVER, play.ask(NET)[1])

    def check(self, *calls):
        one, other = Play(5000, 6000, 10, 20), Play(5000, 6000, 10, 20)
        for call in calls:
            self.assertEqual(one.ask(*call), other.ask(*call))
        self.assertEqual(one.ask(ROUNDS, 1), [0])
        self.by_hand(other)
        self.assertEqual(one.state(), other.state())

    def test_the_same_by_the_other_calls(self):
        self.check()
        self.check((PRESS, 0, 5))
        self.check((PRESS, 0, 5), (DOUBLE, 7), (DELIVER, 7), (TICK, 4))
        self.check((PRESS, 0, 5), (CRASH, 0), (AGAIN, 0), (RESTART,))
        self.check((TICK, 5020), (CRASH, 1))
        self.check((PRESS, 0, 5), *[(NUDGE,)] * 40)

    def test_messages_that_are_older_come_first(self):
        # The old request is older than the new hello, so it's still of the side's epoch.
        given = replies(GOOD_SET, *OPENING, (PRESS, 0, 5), (CRASH, 0), (AGAIN, 0), (ROUNDS, 1), (LOG,))
        self.assertEqual(given[-1], [0, 5])
        # Its double is younger than the new hello.
        given = replies(GOOD_SET, *OPENING, (PRESS, 0, 5), (CRASH, 0), (AGAIN, 0), (DOUBLE, 7), (DROP, 7), (ROUNDS, 1),
                        (LOG,))
        self.assertEqual(given[-1], [0])

    def test_messages_on_the_net_come_before_those_of_the_timers(self):
        # Side 1's ack of before is heard before what side 0's timer sends.
        given = replies(GOOD_SET, *OPENING, (PRESS, 0, 5), (RESTART,), (AGAIN, 1), (DROP, 7), (ROUNDS, 1), (LOG,))
        self.assertEqual(given[-1], [0, 5])
        # Without it side 0's request comes while side 1 isn't here.
        given = replies(GOOD_SET, *OPENING, (PRESS, 0, 5), (RESTART,), (DROP, 7), (ROUNDS, 1), (LOG,))
        self.assertEqual(given[-1], [0])


class TheTimersInOrder(unittest.TestCase):
    def start(self, many):
        """So many old news of side 0, on which nothing is sent; both machines have crashed, both sides are here."""
        return (GOOD_SET, *OPENING, (NUDGE,), (DROP, 8), *[(DOUBLE, 7)] * (many - 1), (CRASH, 0), (CRASH, 1))

    def epochs_and_lost(self, many):
        given = replies(*self.start(many), (ROUNDS, 1), (HOUSE,), (NET,))
        self.assertEqual(given[-1], [0])
        return [given[-2][7], given[-2][13]], given[-2][6]

    def test_machine_0_then_machine_1_then_the_house(self):
        self.assertEqual(self.epochs_and_lost(60), ([2, 2], 0))
        self.assertEqual(self.epochs_and_lost(61), ([2, 2], 1))
        self.assertEqual(self.epochs_and_lost(62), ([2, 2], 2))
        self.assertEqual(self.epochs_and_lost(63), ([2, 1], 3))
        self.assertEqual(self.epochs_and_lost(64), ([1, 1], 4))

    def test_the_house_tells_side_0_before_side_1(self):
        # Place is left for three: both acks and the news of side 0, by which machine 0 hears of the result.
        given = replies(GOOD_SET, *OPENING, *[(AGAIN, 0)] * 61, (TICK, 5020), (ROUNDS, 1), (MACHINE, 0), (MACHINE, 1),
                        (HOUSE,))
        self.assertEqual(given[-3], [0, 1, 1, 1, 0, 0, 0, 6000, 2])
        self.assertEqual(given[-2], [0, 1, 1, 1, 0, 0, 5000, 6000, 0])
        self.assertEqual(given[-1][6], 1)


class FullNet(unittest.TestCase):
    def test_what_the_timers_send_is_lost_and_counted(self):
        given = replies(GOOD_SET, *OPENING, *[(AGAIN, 0)] * 64, (ROUNDS, 1), (NET,), (HOUSE,), (AGAIN, 0), (NET,))
        self.assertEqual(given[-4], [0])
        self.assertEqual(given[-3], [0, 0, 0, 1, 0, 0, 4, 1, 0, 0, 1, 5000, 0, 1, 0, 0, 1, 6000, 0])
        # 7 to 70 were there, 71 to 74 are used up.
        self.assertEqual(given[-1], [0, 75, 2, 0, 1, 0])

    def test_nobody_is_here_and_two_are_lost(self):
        given = replies(GOOD_SET, *[(AGAIN, 0)] * 64, (ROUNDS, 1), (HOUSE,), (NET,))
        self.assertEqual(given[-2:], [[0, 0, 0, 0, 0, 0, 2, 1, 0, 0, 1, 5000, 0, 0, 0, 0, 0, 6000, 0], [0]])

    def test_what_is_sent_while_it_empties_may_be_lost_too(self):
        calls = (GOOD_SET, *OPENING, (PRESS, 0, 5), *[(AGAIN, 1)] * 63)
        given = replies(*calls, (ROUNDS, 1), (HOUSE,), (MACHINE, 0), (MACHINE, 1), (ROUNDS, 1), (HOUSE,), (MACHINE, 1))
        # The request leaves one place: side 0's news has it, and side 1's is the fifth that is lost.
        self.assertEqual(given[-6], [0, 0, 0, 1, 0, 1, 5, 1, 1, 1, 1, 5010, 0, 1, 0, 0, 1, 6000, 0])
        self.assertEqual(given[-5], [0, 1, 1, 2, 0, 0, 5010, 6000, 0, 5])
        self.assertEqual(given[-4], [0, 1, 1, 1, 0, 0, 5000, 6000, 0])
        self.assertEqual(given[-2], [0, 0, 0, 1, 0, 1, 5, 1, 1, 1, 1, 5010, 0, 1, 0, 1, 1, 6000, 0])
        self.assertEqual(given[-1], [0, 1, 1, 1, 0, 0, 5010, 6000, 0, 5])

    def test_only_the_first_of_ten_rounds_finds_it_full(self):
        given = replies(GOOD_SET, *OPENING, *[(AGAIN, 0)] * 64, (ROUNDS, 10), (HOUSE,), (NET,))
        self.assertEqual((given[-2][6], given[-1]), (4, [0]))

    def test_full_of_requests(self):
        calls = (GOOD_SET, *OPENING, (PRESS, 0, 5), *[(AGAIN, 0)] * 63)
        given = replies(*calls, (ROUNDS, 2), (LOG,), (HOUSE,), (MACHINE, 0), (MACHINE, 1), (NET,))
        self.assertEqual(given[-5], [0, 5])
        self.assertEqual(given[-4][7:11], [1, 1, 1, 1])
        self.assertEqual([given[-3][9:], given[-2][9:], given[-1]], [[5], [5], [0]])


class WhatWasLostComesAfterAll(unittest.TestCase):
    def test_a_request_that_was_dropped_is_sent_again_and_handled_once(self):
        for many in (1, 2, 10):
            given = replies(GOOD_SET, *OPENING, (TICK, 100), (PRESS, 0, 5), (DROP, 7), (ROUNDS, many), (LOG,), (HOUSE,),
                            (MACHINE, 0), (MACHINE, 1))
            self.assertEqual(given[-4:], [
                [0, 5],
                [0, 100, 0, 1, 0, 1, 0, 1, 1, 1, 1, 4910, 100, 1, 0, 1, 1, 6000, 0],
                [0, 1, 1, 2, 0, 0, 4910, 6000, 0, 5],
                [0, 1, 1, 1, 0, 100, 4910, 6000, 0, 5]])

    def test_a_request_doubled_is_handled_once(self):
        given = replies(GOOD_SET, *OPENING, (PRESS, 0, 5), *[(DOUBLE, 7)] * 20, (ROUNDS, 3), (LOG,), (HOUSE,))
        self.assertEqual(given[-2:], [[0, 5], [0, 0, 0, 1, 0, 1, 0, 1, 1, 1, 1, 5010, 0, 1, 0, 1, 1, 6000, 0]])

    def test_news_that_was_dropped(self):
        given = replies(GOOD_SET, *OPENING, (PRESS, 0, 5), (DELIVER, 7), (DROP, 8), (DROP, 9), (ROUNDS, 1),
                        (MACHINE, 0), (MACHINE, 1))
        self.assertEqual([given[-2][9:], given[-1][9:]], [[5], [5]])

    def check_all_know_all(self, play, result):
        log = play.ask(LOG)[1:]
        for side in (0, 1):
            shown, seat = play.ask(MACHINE, side), play.ask(HOUSE)[7 + 6 * side:13 + 6 * side]
            self.assertEqual((shown[2], shown[4], shown[8], shown[9:]), (1, 0, result, log))
            self.assertEqual((seat[0], seat[2], seat[3]), (shown[1], len(log), 1))
        house = play.ask(HOUSE)
        self.assertEqual([play.ask(MACHINE, side)[6:8] for side in (0, 1)], [[house[11], house[17]]] * 2)
        self.assertEqual(play.ask(NET), [0])

    def trouble(self, play):
        """Both machines and the house crash, and a net full of old messages is there."""
        play.ask(NUDGE)
        while len(play.numbers()) < 64:
            play.ask(DOUBLE, play.numbers()[-1])
        for call in ((CRASH, 0), (CRASH, 1), (RESTART,), (CRASH, 0)):
            play.ask(*call)

    def test_the_whole_log_and_the_result_3(self):
        play = Play(5000, 6000, 10, 20)
        play.make_moves(*range(60))
        self.trouble(play)
        play.ask(ROUNDS, 3)
        self.check_all_know_all(play, 3)

    def test_the_results_1_and_2(self):
        for many in (7, 8):
            play = Play(5000, 6000, 10, 20)
            play.make_moves(*range(many))
            play.ask(TICK, 10000)
            self.trouble(play)
            play.ask(ROUNDS, 3)
            self.check_all_know_all(play, 2 - many % 2)

    def test_a_game_that_goes_on(self):
        play = Play(5000, 6000, 10, 20)
        play.make_moves(*range(23))
        play.ask(TICK, 40)
        self.trouble(play)
        play.ask(ROUNDS, 3)
        self.check_all_know_all(play, 0)
        play.make_moves(23)
        self.check_all_know_all(play, 0)

    def test_behind_a_restart_the_second_round_tells(self):
        # In the first round the house hears both, and only then is the time to tell them.
        given = replies(GOOD_SET, *OPENING, (TICK, 5020), (RESTART,), (ROUNDS, 1), (MACHINE, 0), (ROUNDS, 1),
                        (MACHINE, 0))
        self.assertEqual([given[-3][8], given[-1][8]], [0, 2])


if __name__ == "__main__":
    unittest.main()
