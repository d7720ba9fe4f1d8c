"""press: who may, which refusal is answered, and how long the player thought."""

import unittest

from play import AGAIN, DELIVER, DROP, NUDGE, OPENING, PRESS, SET, TICK, Play, last_reply, replies

GOOD_SET = (SET, 100000, 100000, 0, 0)


class Ordinary(unittest.TestCase):
    def test_the_machine_has_a_request_and_sends_it(self):
        play = Play()
        play.ask(TICK, 25)
        self.assertEqual(play.ask(PRESS, 0, 321), [0, 1, 25])
        self.assertEqual(play.messages(), [(1, 0, 1, 1, 0, 321, 25)])
        self.assertEqual(play.machine(0).next_request, 2)
        self.assertEqual(play.machine(0).moves, [])

    def test_numbers_of_requests_are_each_machine_s_own(self):
        play = Play()
        play.make_moves(5, 6)
        self.assertEqual(play.ask(PRESS, 0, 7), [0, 2, 0])
        self.assertEqual(play.messages(), [(1, 0, 1, 2, 2, 7, 0)])
        play.settle()
        self.assertEqual(play.ask(PRESS, 1, 8), [0, 2, 0])
        self.assertEqual(play.messages(), [(1, 1, 1, 2, 3, 8, 0)])

    def test_a_request_that_is_lost_at_once_is_still_had(self):
        play = Play()
        play.fill_net()
        self.assertEqual(play.ask(PRESS, 0, 5), [0, 1, 0])
        self.assertEqual(play.net.lost, 1)
        self.assertEqual(play.ask(PRESS, 0, 6), [-3])
        play.clear()
        play.ask(AGAIN, 0)
        self.assertEqual(play.messages(), [(1, 0, 1, 1, 0, 5, 0)])

    def test_a_move_of_before_the_last_may_come_again(self):
        play = Play()
        play.make_moves(5, 6, 5, 6)
        self.assertEqual(play.house.log, [5, 6, 5, 6])

    def test_the_house_is_not_asked_whether_the_clock_runs(self):
        # Machine 0 is on by news alone; side 1 has never been here.
        given = replies(GOOD_SET, (AGAIN, 0), (DELIVER, 1), (DELIVER, 2), (PRESS, 0, 5))
        self.assertEqual(given[-1], [0, 1, 0])


class Refused(unittest.TestCase):
    def refused(self, play, side, move, number):
        before = play.state()
        self.assertEqual(play.ask(PRESS, side, move), [number])
        self.assertEqual(play.state(), before)

    def test_a_machine_that_is_not_on(self):
        self.refused(Play(opened=False), 0, 5, -3)
        play = Play(opened=False)
        play.ask(AGAIN, 0)
        play.ask(DELIVER, 1)
        self.refused(play, 0, 5, -3)
        play.ask(DELIVER, 2)
        self.assertEqual(play.ask(PRESS, 0, 5), [0, 1, 0])

    def test_a_request_that_it_has_not_heard_of(self):
        play = Play()
        play.ask(PRESS, 0, 5)
        self.refused(play, 0, 6, -3)
        play.clear()
        self.refused(play, 0, 6, -3)
        play.ask(AGAIN, 0)
        play.settle()
        play.make_moves(7)
        self.assertEqual(play.ask(PRESS, 0, 6), [0, 2, 0])

    def test_handled_by_the_house_is_not_heard_of_yet(self):
        play = Play()
        play.ask(PRESS, 0, 5)
        play.ask(DELIVER, 7)
        self.assertEqual(play.house.log, [5])
        self.refused(play, 0, 6, -3)

    def test_the_other_side_is_to_move(self):
        play = Play()
        self.refused(play, 1, 5, -3)
        play.make_moves(5)
        self.refused(play, 0, 6, -3)

    def test_by_the_moves_that_the_machine_knows(self):
        # The log has a move already, but machine 1 hasn't heard of it.
        play = Play()
        play.ask(PRESS, 0, 5)
        play.ask(DELIVER, 7)
        self.refused(play, 1, 6, -3)
        play.ask(DELIVER, 9)
        self.assertEqual(play.ask(PRESS, 1, 6), [0, 1, 0])

    def test_a_result_that_it_has_heard_of(self):
        play = Play(bank0=100)
        self.assertEqual(play.ask(TICK, 100), [0, 100, 2])
        play.ask(NUDGE)
        play.settle()
        self.refused(play, 0, 5, -3)

    def test_a_result_that_it_has_not_heard_of(self):
        play = Play(bank0=100)
        self.assertEqual(play.ask(TICK, 100), [0, 100, 2])
        self.assertEqual(play.ask(PRESS, 0, 5), [0, 1, 100])

    def test_the_result_that_ends_a_full_log(self):
        play = Play()
        play.make_moves(*([1, 2] * 30))
        self.assertEqual([play.machine(side).result for side in (0, 1)], [3, 3])
        self.refused(play, 0, 5, -3)
        self.refused(play, 1, 5, -3)

    def test_the_same_move_as_the_last(self):
        play = Play()
        play.make_moves(5)
        self.refused(play, 1, 5, -6)
        self.assertEqual(play.ask(PRESS, 1, 6), [0, 1, 0])

    def test_move_0_is_a_move_like_others(self):
        play = Play()
        self.assertEqual(play.ask(PRESS, 0, 0), [0, 1, 0])
        play.settle()
        self.refused(play, 1, 0, -6)

    def test_a_number_out_of_range_before_what_the_machine_can_do(self):
        for side, move in ((-1, 5), (2, 5), (0, -1), (1, 1000), (-1, 1000)):
            with self.subTest(side=side, move=move):
                self.refused(Play(opened=False), side, move, -1)
                self.assertEqual(last_reply(GOOD_SET, (PRESS, side, move)), [-1])

    def test_what_the_machine_can_do_before_the_same_move(self):
        # Machine 0 knows 5 as the last move, and it isn't its turn.
        play = Play()
        play.make_moves(5)
        self.refused(play, 0, 5, -3)
        # Machine 1 is to move, but has a request.
        play.ask(PRESS, 1, 6)
        self.refused(play, 1, 5, -3)
        # Machine 1 is to move, but has heard of a result.
        play = Play(bank1=100)
        play.make_moves(5)
        play.ask(TICK, 100)
        play.ask(NUDGE)
        play.settle()
        self.refused(play, 1, 5, -3)


class Thought(unittest.TestCase):
    def test_from_when_it_learned_to_now(self):
        given = replies(GOOD_SET, (TICK, 10), *OPENING, (TICK, 25), (PRESS, 0, 5))
        self.assertEqual(given[-1], [0, 1, 25])

    def test_the_other_machine_learns_when_news_of_the_move_arrives(self):
        given = replies(GOOD_SET, *OPENING, (TICK, 25), (PRESS, 0, 5), (TICK, 4), (DELIVER, 7), (TICK, 6),
                        (DELIVER, 9), (TICK, 30), (PRESS, 1, 6))
        self.assertEqual(given[-1], [0, 1, 30])

    def test_later_news_of_nothing_new_does_not_count(self):
        given = replies(GOOD_SET, *OPENING, (TICK, 25), (NUDGE,), (DELIVER, 7), (TICK, 5), (PRESS, 0, 5))
        self.assertEqual(given[-1], [0, 1, 30])

    def test_a_request_sent_again_says_what_it_said(self):
        play = Play()
        play.ask(TICK, 25)
        play.ask(PRESS, 0, 5)
        play.ask(DROP, 7)
        play.ask(TICK, 100)
        play.ask(AGAIN, 0)
        self.assertEqual(play.messages(), [(1, 0, 1, 1, 0, 5, 25)])


if __name__ == "__main__":
    unittest.main()
