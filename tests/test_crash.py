"""crash: a machine begins anew in the next epoch, and what becomes of the messages of its old one."""

import unittest

from play import (AGAIN, CRASH, DELIVER, DOUBLE, DROP, HOUSE, LOG, MACHINE, NET, NUDGE, OPENING, PRESS, ROUNDS, SET,
                  TICK, Play, replies)

GOOD_SET = (SET, 5000, 6000, 10, 20)
NEW_IN_2 = [0, 2, 0, 1, 0, 0, 0, 0, 0]
NEW_IN_3 = [0, 3, 0, 1, 0, 0, 0, 0, 0]


class BeginsAnew(unittest.TestCase):
    def test_on_a_new_table(self):
        for side in (0, 1):
            given = replies(GOOD_SET, (CRASH, side), (MACHINE, side), (MACHINE, 1 - side))
            self.assertEqual(given[1:], [[0, 2], NEW_IN_2, [0, 1, 0, 1, 0, 0, 0, 0, 0]])

    def test_twice(self):
        given = replies(GOOD_SET, (CRASH, 0), (CRASH, 0), (CRASH, 1), (MACHINE, 0), (MACHINE, 1), (CRASH, 0))
        self.assertEqual(given[1:], [[0, 2], [0, 3], [0, 2], NEW_IN_3, NEW_IN_2, [0, 4]])

    def test_nothing_that_it_had_is_left(self):
        for side in (0, 1):
            play = Play(5000, 6000, 10, 20)
            play.ask(TICK, 30)
            play.make_moves(*range(10, 20 + side))
            play.ask(TICK, 30)
            play.ask(PRESS, side, 5)
            # Its time is up while it waits: it hears of the result and still has its request.
            play.ask(DROP, play.numbers()[0])
            play.ask(TICK, 10000)
            play.ask(NUDGE)
            play.ask(DELIVER, play.numbers()[side])
            shown = play.ask(MACHINE, side)
            self.assertEqual((shown[1:6], shown[8], len(shown)), ([1, 1, 7, 1, 30], 2 - side, 19 + side))
            self.assertGreater(shown[7 - side], 5000)
            self.assertEqual(play.ask(CRASH, side), [0, 2])
            self.assertEqual(play.ask(MACHINE, side), NEW_IN_2)

    def test_nothing_else_is_touched(self):
        play = Play(5000, 6000, 10, 20)
        play.make_moves(1, 2, 3)
        play.ask(TICK, 30)
        play.ask(PRESS, 1, 4)
        play.ask(NUDGE)
        shows = ((NET,), (HOUSE,), (LOG,), (MACHINE, 0))
        before = [play.ask(*call) for call in shows]
        play.ask(CRASH, 1)
        self.assertEqual([play.ask(*call) for call in shows], before)
        self.assertEqual(play.ask(MACHINE, 1), NEW_IN_2)

    def test_it_can_not_press_till_it_is_on_again(self):
        given = replies(GOOD_SET, *OPENING, (CRASH, 0), (PRESS, 0, 5), (AGAIN, 0), (PRESS, 0, 5), (DELIVER, 7),
                        (PRESS, 0, 5), (DELIVER, 8), (PRESS, 0, 5), (NET,))
        self.assertEqual(given[9:], [[0, 2], [-3], [0], [-3], [0], [-3], [0], [0, 1, 0],
                                     [0, 9, 2, 0, 2, 0, 10, 1, 0, 2, 1, 0, 5, 0]])

    def test_its_timer_says_hello_with_the_new_epoch(self):
        given = replies(GOOD_SET, *OPENING, (PRESS, 0, 5), (CRASH, 0), (DROP, 7), (AGAIN, 0), (NET,))
        self.assertEqual(given[-1], [0, 8, 0, 0, 2])

    def test_refused(self):
        play = Play(5000, 6000, 10, 20)
        play.make_moves(1)
        before = play.state()
        for side in (-1, 2):
            self.assertEqual(play.ask(CRASH, side), [-1])
            self.assertEqual(play.state(), before)


class OldMessagesAtTheHouse(unittest.TestCase):
    def test_a_request_before_the_new_hello(self):
        given = replies(GOOD_SET, *OPENING, (TICK, 30), (PRESS, 0, 5), (CRASH, 0), (DELIVER, 7), (HOUSE,), (NET,),
                        (DELIVER, 8), (MACHINE, 0), (AGAIN, 0), (DELIVER, 10), (HOUSE,), (DELIVER, 11), (MACHINE, 0))
        # The move is made, and told in the epoch that the house knows; the machine hears of it in its new one.
        self.assertEqual(given[13], [0, 30, 0, 1, 0, 1, 0, 1, 1, 0, 1, 4980, 30, 1, 0, 0, 1, 6000, 0])
        self.assertEqual(given[14], [0, 8, 3, 0, 1, 0, 1, 5, 1, 4980, 6000, 0, 9, 3, 1, 1, 0, 1, 5, 0, 4980, 6000, 0])
        self.assertEqual(given[16], NEW_IN_2)
        self.assertEqual(given[19], [0, 30, 0, 1, 0, 1, 0, 2, 0, 0, 1, 4980, 30, 1, 0, 0, 1, 6000, 0])
        self.assertEqual(given[21], [0, 2, 1, 1, 0, 0, 4980, 6000, 0, 5])

    def test_a_request_behind_the_new_hello(self):
        given = replies(GOOD_SET, *OPENING, (TICK, 30), (PRESS, 0, 5), (CRASH, 0), (AGAIN, 0), (DELIVER, 8), (DROP, 9),
                        (HOUSE,), (DELIVER, 7), (HOUSE,), (NET,), (LOG,))
        self.assertEqual(given[15], [0, 30, 0, 1, 30, 0, 0, 2, 0, 0, 1, 5000, 0, 1, 0, 0, 1, 6000, 0])
        self.assertEqual(given[17:], [given[15], [0], [0]])

    def test_an_old_request_is_not_taken_for_the_new_one_of_its_number(self):
        # Request 1 of epoch 1 comes between the new hello and request 1 of epoch 2.
        given = replies(GOOD_SET, *OPENING, (PRESS, 0, 5), (CRASH, 0), (AGAIN, 0), (DELIVER, 8), (DELIVER, 9),
                        (PRESS, 0, 6), (DELIVER, 7), (DELIVER, 11), (LOG,), (HOUSE,))
        self.assertEqual(given[14], [0, 1, 0])
        self.assertEqual(given[17], [0, 6])
        self.assertEqual(given[18][7:11], [2, 1, 0, 1])

    def test_a_move_that_was_made_is_not_made_again(self):
        # The request is doubled, handled once, and comes again behind the new hello.
        given = replies(GOOD_SET, *OPENING, (PRESS, 0, 5), (DOUBLE, 7), (DELIVER, 7), (CRASH, 0), (AGAIN, 0),
                        (DELIVER, 11), (DELIVER, 8), (LOG,), (ROUNDS, 2), (LOG,), (MACHINE, 0))
        self.assertEqual(given[16], [0, 5])
        self.assertEqual(given[18:], [[0, 5], [0, 2, 1, 1, 0, 0, 5010, 6000, 0, 5]])

    def test_an_ack_before_the_new_hello(self):
        given = replies(GOOD_SET, *OPENING, (PRESS, 0, 5), (DELIVER, 7), (DELIVER, 8), (CRASH, 0), (DELIVER, 10),
                        (HOUSE,), (AGAIN, 0), (DELIVER, 11), (HOUSE,))
        self.assertEqual(given[14][7:11], [1, 1, 1, 1])
        self.assertEqual(given[17][7:11], [2, 0, 0, 1])

    def test_an_ack_behind_the_new_hello(self):
        given = replies(GOOD_SET, *OPENING, (PRESS, 0, 5), (DELIVER, 7), (DELIVER, 8), (CRASH, 0), (AGAIN, 0),
                        (DELIVER, 11), (DROP, 12), (DROP, 9), (DELIVER, 10), (HOUSE,), (NET,))
        self.assertEqual(given[-2], [0, 0, 0, 1, 0, 1, 0, 2, 0, 0, 1, 5010, 0, 1, 0, 0, 1, 6000, 0])
        self.assertEqual(given[-1], [0])

    def test_a_hello_before_the_new_one(self):
        given = replies(GOOD_SET, (AGAIN, 0), (CRASH, 0), (AGAIN, 0), (DELIVER, 1), (HOUSE,), (NET,), (DELIVER, 2),
                        (HOUSE,), (DELIVER, 3), (MACHINE, 0), (DELIVER, 4), (MACHINE, 0))
        self.assertEqual(given[5][7:11], [1, 0, 0, 1])
        self.assertEqual(given[6], [0, 2, 0, 0, 2, 3, 3, 0, 1, 0, 0, 0, 5000, 6000, 0])
        self.assertEqual(given[8][7:11], [2, 0, 0, 1])
        self.assertEqual(given[10], NEW_IN_2)
        self.assertEqual(given[12], [0, 2, 1, 1, 0, 0, 5000, 6000, 0])

    def test_a_hello_behind_the_new_one(self):
        given = replies(GOOD_SET, (AGAIN, 0), (CRASH, 0), (AGAIN, 0), (DELIVER, 2), (DROP, 3), (HOUSE,), (DELIVER, 1),
                        (HOUSE,), (NET,))
        self.assertEqual(given[6][7:11], [2, 0, 0, 1])
        self.assertEqual(given[8:], [given[6], [0]])

    def test_hellos_of_two_crashes_in_either_order(self):
        hellos = (GOOD_SET, (CRASH, 1), (AGAIN, 1), (CRASH, 1), (AGAIN, 1))
        given = replies(*hellos, (DELIVER, 1), (HOUSE,), (DELIVER, 2), (HOUSE,))
        self.assertEqual([given[6][13], given[8][13]], [2, 3])
        given = replies(*hellos, (DELIVER, 2), (HOUSE,), (DELIVER, 1), (HOUSE,), (NET,))
        self.assertEqual([given[6][13], given[8][13]], [3, 3])
        self.assertEqual(given[9], [0, 3, 3, 1, 3, 0, 0, 0, 5000, 6000, 0])

    def test_messages_of_an_epoch_that_the_house_has_not_heard_of(self):
        # The new machine is on by no news of the old epoch, so nothing but hello is sent in the new one.
        given = replies(GOOD_SET, *OPENING, (NUDGE,), (CRASH, 0), (DELIVER, 7), (AGAIN, 0), (NET,))
        self.assertEqual(given[-1], [0, 8, 3, 1, 1, 0, 0, 0, 5000, 6000, 0, 9, 0, 0, 2])


class OldMessagesAtTheMachine(unittest.TestCase):
    def test_news_before_the_new_hello(self):
        given = replies(GOOD_SET, *OPENING, (NUDGE,), (DROP, 8), (CRASH, 0), (DELIVER, 7), (MACHINE, 0), (NET,))
        self.assertEqual(given[-2:], [NEW_IN_2, [0]])

    def test_news_behind_the_new_hello(self):
        given = replies(GOOD_SET, *OPENING, (PRESS, 0, 5), (DELIVER, 7), (CRASH, 0), (AGAIN, 0), (DELIVER, 10),
                        (DROP, 9), (DELIVER, 8), (MACHINE, 0), (NET,), (DELIVER, 11), (MACHINE, 0))
        self.assertEqual(given[16], NEW_IN_2)
        self.assertEqual(given[17], [0, 11, 3, 0, 2, 0, 1, 5, 0, 5010, 6000, 0])
        self.assertEqual(given[19], [0, 2, 1, 1, 0, 0, 5010, 6000, 0, 5])

    def test_old_news_does_not_take_the_new_request(self):
        # News of epoch 1 says that request 1 is handled; that isn't said of request 1 of epoch 2.
        given = replies(GOOD_SET, *OPENING, (PRESS, 0, 5), (DELIVER, 7), (DELIVER, 9), (PRESS, 1, 6), (DELIVER, 11),
                        (CRASH, 0), (AGAIN, 0), (DELIVER, 14), (DELIVER, 15), (PRESS, 0, 7), (DELIVER, 8), (MACHINE, 0))
        self.assertEqual(given[-3:], [[0, 1, 0], [0], [0, 2, 1, 2, 1, 0, 5010, 6010, 0, 5, 6]])

    def test_news_of_the_epoch_between_two_crashes(self):
        given = replies(GOOD_SET, *OPENING, (CRASH, 0), (AGAIN, 0), (DELIVER, 7), (CRASH, 0), (DELIVER, 8),
                        (MACHINE, 0), (NET,), (HOUSE,), (ROUNDS, 1), (MACHINE, 0), (HOUSE,))
        self.assertEqual(given[14:16], [NEW_IN_3, [0]])
        self.assertEqual(given[16][7:11], [2, 0, 0, 1])
        self.assertEqual(given[18], [0, 3, 1, 1, 0, 0, 5000, 6000, 0])
        self.assertEqual(given[19][7:11], [3, 0, 0, 1])


class TheNewHello(unittest.TestCase):
    def test_handled_and_acked_begin_anew(self):
        play = Play(5000, 6000, 10, 20)
        play.ask(TICK, 100)
        play.make_moves(1, 2, 3, 4, 5)
        before = play.ask(HOUSE)
        self.assertEqual(before[7:11], [1, 3, 5, 1])
        play.ask(CRASH, 0)
        play.ask(AGAIN, 0)
        self.assertEqual(play.ask(HOUSE), before)
        play.ask(DELIVER, play.numbers()[0])
        # The clock goes on, and banks and spent stay.
        self.assertEqual(play.ask(HOUSE), before[:7] + [2, 0, 0, 1] + before[11:])

    def test_the_clock_runs_on_through_a_crash(self):
        given = replies(GOOD_SET, *OPENING, (TICK, 50), (CRASH, 0), (TICK, 50), (AGAIN, 0), (DELIVER, 7), (HOUSE,),
                        (DELIVER, 8), (MACHINE, 0), (TICK, 30), (PRESS, 0, 5), (DELIVER, 10), (HOUSE,))
        self.assertEqual(given[14][3:5], [1, 100])
        self.assertEqual(given[16], [0, 2, 1, 1, 0, 100, 5000, 6000, 0])
        # Its player thought for 30 at the new machine, but of the 130 that side 0 has had the lag forgives only 20.
        self.assertEqual(given[18], [0, 1, 30])
        self.assertEqual(given[20][7:13], [2, 1, 0, 1, 4900, 110])

    def test_time_may_be_up_before_it(self):
        given = replies(GOOD_SET, *OPENING, (CRASH, 0), (TICK, 5020), (ROUNDS, 2), (MACHINE, 0), (PRESS, 0, 1))
        self.assertEqual(given[-4:], [[0, 5020, 2], [0], [0, 2, 1, 1, 0, 5020, 0, 6000, 2], [-3]])


class ALongLogLearnedAnew(unittest.TestCase):
    def learn(self, play, side):
        """Goes on from the hello, message by message; gives back the moves of each news and what each ack says."""
        play.ask(CRASH, side)
        play.ask(AGAIN, side)
        news, acks = [], []
        while play.numbers():
            shown = play.ask(NET)
            self.assertEqual(shown[3], side)
            if shown[2] == 3:
                news.append((shown[5], shown[7:7 + shown[6]]))
            elif shown[2] == 2:
                acks.append(shown[5])
            play.ask(DELIVER, shown[1])
        return news, acks

    def test_four_at_a_time(self):
        for many in (3, 4, 5, 8, 59, 60):
            for side in (0, 1):
                with self.subTest(many=many, side=side):
                    play = Play()
                    log = [at + 300 for at in range(many)]
                    play.make_moves(*log)
                    news, acks = self.learn(play, side)
                    self.assertEqual(news, [(at, log[at:at + 4]) for at in range(0, many, 4)])
                    self.assertEqual(acks, [min(at + 4, many) for at in range(0, many, 4)])
                    self.assertEqual(play.ask(MACHINE, side)[9:], log)
                    self.assertEqual(play.ask(HOUSE)[9 + 6 * side], many)

    def test_an_empty_log(self):
        play = Play()
        self.assertEqual(self.learn(play, 1), ([(0, [])], [0]))

    def test_when_it_learned(self):
        # Side 1 is to move by 7 moves, not by the first 4: it learned when the second news arrived.
        play = Play()
        play.make_moves(*range(7))
        play.ask(CRASH, 1)
        play.ask(AGAIN, 1)
        for news in ([1, 0], [1, 2020]):
            play.ask(TICK, 1000)
            play.ask(DELIVER, play.numbers()[0])
            play.ask(TICK, 10)
            play.ask(DELIVER, play.numbers()[0])
            self.assertEqual(play.ask(MACHINE, 1)[2:6:3], news)

    def test_it_may_press_by_the_first_four_alone(self):
        # By 4 moves side 0 is to move; its request has another ply than the log, so nothing comes of it.
        play = Play()
        play.make_moves(*range(6))
        play.ask(CRASH, 0)
        play.ask(AGAIN, 0)
        play.ask(DELIVER, play.numbers()[0])
        play.ask(DELIVER, play.numbers()[0])
        self.assertEqual(play.ask(PRESS, 0, 3), [-6])
        self.assertEqual(play.ask(PRESS, 0, 9), [0, 1, 0])
        play.settle()
        self.assertEqual(play.ask(LOG), [0, 0, 1, 2, 3, 4, 5])
        self.assertEqual(play.ask(MACHINE, 0)[1:5], [2, 1, 2, 0])
        self.assertEqual(play.ask(HOUSE)[7:10], [2, 1, 6])

    def test_the_game_goes_on_behind_it(self):
        play = Play()
        play.make_moves(*range(9))
        play.ask(CRASH, 0)
        play.ask(CRASH, 1)
        play.ask(ROUNDS, 1)
        play.make_moves(9, 10)
        self.assertEqual(play.ask(LOG), [0] + list(range(11)))
        self.assertEqual([play.ask(HOUSE)[at] for at in (7, 8, 13, 14)], [2, 1, 2, 1])


if __name__ == "__main__":
    unittest.main()
