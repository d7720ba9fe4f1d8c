"""The net, and the calls that touch it alone: again, nudge, deliver, drop, double."""

import unittest

from play import AGAIN, DELIVER, DOUBLE, DROP, NUDGE, OPENING, PRESS, SET, TICK, Play, last_reply, replies

GOOD_SET = (SET, 100000, 90000, 0, 0)


class Again(unittest.TestCase):
    def test_a_machine_that_is_not_on_says_hello(self):
        play = Play(opened=False)
        self.assertEqual(play.ask(AGAIN, 0), [0])
        self.assertEqual(play.ask(AGAIN, 1), [0])
        self.assertEqual(play.ask(AGAIN, 1), [0])
        self.assertEqual(play.messages(), [(0, 0, 1), (0, 1, 1), (0, 1, 1)])
        self.assertEqual(play.numbers(), [1, 2, 3])

    def test_a_machine_with_a_request_sends_it_again(self):
        play = Play()
        play.ask(PRESS, 0, 5)
        play.ask(AGAIN, 0)
        play.ask(AGAIN, 0)
        self.assertEqual(play.messages(), [(1, 0, 1, 1, 0, 5, 0)] * 3)
        self.assertEqual(play.machine(0).next_request, 2)

    def test_else_it_sends_an_ack(self):
        play = Play()
        play.make_moves(5, 6, 7)
        play.ask(AGAIN, 1)
        play.ask(AGAIN, 0)
        self.assertEqual(play.messages(), [(2, 1, 1, 3), (2, 0, 1, 3)])


class Nudge(unittest.TestCase):
    def test_nobody_is_here(self):
        play = Play(opened=False)
        self.assertEqual(play.ask(NUDGE), [0])
        self.assertEqual((play.numbers(), play.net.next_number), ([], 1))

    def test_one_side_is_here(self):
        for side in (0, 1):
            play = Play(100000, 90000, opened=False)
            play.ask(AGAIN, side)
            play.settle()
            play.ask(NUDGE)
            self.assertEqual(play.messages(), [(3, side, 1, 0, (), 0, 100000, 90000, 0)])

    def test_side_0_then_side_1(self):
        play = Play(100000, 90000)
        self.assertEqual(play.ask(NUDGE), [0])
        self.assertEqual(play.messages(), [
            (3, 0, 1, 0, (), 0, 100000, 90000, 0),
            (3, 1, 1, 0, (), 0, 100000, 90000, 0),
        ])
        self.assertEqual(play.numbers(), [7, 8])

    def test_it_does_not_hear_anyone(self):
        play = Play(opened=False)
        play.ask(AGAIN, 0)
        play.settle()
        before = play.plain_house()
        play.ask(NUDGE)
        self.assertEqual(play.plain_house(), before)


class Deliver(unittest.TestCase):
    def test_the_message_leaves_and_arrives(self):
        play = Play(opened=False)
        play.ask(AGAIN, 0)
        self.assertEqual(play.ask(DELIVER, 1), [0])
        self.assertEqual(play.numbers(), [2])
        self.assertTrue(play.seat(0).here)

    def test_in_any_order(self):
        given = replies(GOOD_SET, (AGAIN, 0), (AGAIN, 1), (AGAIN, 0), (DELIVER, 3), (DELIVER, 1), (DELIVER, 2),
                        (DELIVER, 6), (DELIVER, 4), (PRESS, 0, 5), (PRESS, 1, 5))
        self.assertEqual(given[4:], [[0], [0], [0], [0], [0], [0, 1, 0], [-3]])

    def test_a_message_that_has_left_already(self):
        for leave in (DELIVER, DROP):
            for call in (DELIVER, DROP, DOUBLE):
                play = Play(opened=False)
                play.ask(AGAIN, 0)
                play.ask(leave, 1)
                before = play.state()
                self.assertEqual(play.ask(call, 1), [-2])
                self.assertEqual(play.state(), before)

    def test_a_message_that_has_never_been_sent(self):
        for call in (DELIVER, DROP, DOUBLE):
            for number in (-1, 0, 2, 65):
                self.assertEqual(last_reply(GOOD_SET, (AGAIN, 0), (call, number)), [-2])


class Drop(unittest.TestCase):
    def test_the_message_leaves_and_does_not_arrive(self):
        play = Play(opened=False)
        play.ask(AGAIN, 0)
        play.ask(AGAIN, 1)
        before = play.plain_house()
        self.assertEqual(play.ask(DROP, 1), [0])
        self.assertEqual(play.numbers(), [2])
        self.assertEqual(play.plain_house(), before)

    def test_it_does_not_count_as_lost_and_its_number_is_used_up(self):
        play = Play(opened=False)
        play.ask(AGAIN, 0)
        play.ask(DROP, 1)
        self.assertEqual(play.net.lost, 0)
        play.ask(AGAIN, 0)
        self.assertEqual(play.numbers(), [2])


class Double(unittest.TestCase):
    def test_a_message_just_like_it_is_sent(self):
        play = Play()
        play.ask(PRESS, 0, 5)
        play.ask(DELIVER, 7)
        self.assertEqual(play.ask(DOUBLE, 9), [0, 10])
        messages = play.messages()
        self.assertEqual(messages[2], messages[1])
        self.assertEqual(play.numbers(), [8, 9, 10])

    def test_it_goes_its_own_way(self):
        given = replies(GOOD_SET, (AGAIN, 0), (DOUBLE, 1), (DROP, 1), (DOUBLE, 2), (DELIVER, 2), (DELIVER, 3),
                        (DOUBLE, 1))
        self.assertEqual(given, [[0], [0], [0, 2], [0], [0, 3], [0], [0], [-2]])

    def test_it_stays_as_it_was_when_the_machine_goes_on(self):
        play = Play()
        play.ask(PRESS, 0, 5)
        play.ask(DOUBLE, 7)
        play.ask(DELIVER, 7)
        play.ask(DELIVER, 9)
        play.ask(DELIVER, 10)
        self.assertEqual(play.messages()[0], (1, 0, 1, 1, 0, 5, 0))

    def test_a_move_is_not_made_twice(self):
        play = Play()
        play.ask(PRESS, 0, 5)
        play.ask(DOUBLE, 7)
        play.settle()
        self.assertEqual(play.house.log, [5])
        self.assertEqual([play.machine(side).moves for side in (0, 1)], [[5], [5]])

    def test_news_on_its_way_is_not_changed_by_what_comes_later(self):
        play = Play()
        play.ask(PRESS, 0, 5)
        play.ask(DELIVER, 7)
        before = play.messages()[0]
        play.ask(DELIVER, 9)
        play.ask(PRESS, 1, 6)
        play.ask(DELIVER, 11)
        self.assertEqual(play.house.log, [5, 6])
        self.assertEqual(play.messages()[0], before)


class FullNet(unittest.TestCase):
    def test_sixty_four_are_held(self):
        play = Play(opened=False)
        play.fill_net()
        self.assertEqual(play.numbers(), list(range(1, 65)))
        self.assertEqual(play.net.lost, 0)

    def test_the_sixty_fifth_is_lost_and_has_used_its_number_up(self):
        play = Play(opened=False)
        play.fill_net()
        self.assertEqual(play.ask(AGAIN, 0), [0])
        self.assertEqual(play.ask(AGAIN, 1), [0])
        self.assertEqual(play.net.lost, 2)
        self.assertEqual(play.numbers(), list(range(1, 65)))
        play.ask(DROP, 10)
        play.ask(AGAIN, 1)
        self.assertEqual(play.numbers()[-2:], [64, 67])
        self.assertEqual(play.net.lost, 2)

    def test_as_the_answers_show_it(self):
        given = replies(GOOD_SET, *[(AGAIN, 0)] * 65, (DELIVER, 65), (DROP, 64), (DROP, 65), (DOUBLE, 1), (DOUBLE, 1))
        self.assertEqual(given[66:], [[-2], [0], [-2], [0, 66], [-4]])

    def test_double_on_a_full_net(self):
        play = Play(opened=False)
        play.fill_net()
        before = play.state()
        self.assertEqual(play.ask(DOUBLE, 1), [-4])
        self.assertEqual(play.ask(DOUBLE, 64), [-4])
        self.assertEqual(play.state(), before)

    def test_no_such_message_before_a_full_net(self):
        play = Play(opened=False)
        play.fill_net()
        for number in (-1, 0, 65):
            self.assertEqual(play.ask(DOUBLE, number), [-2])
        self.assertEqual(last_reply(GOOD_SET, *[(AGAIN, 0)] * 64, (DOUBLE, 65)), [-2])

    def test_double_at_63(self):
        given = replies(GOOD_SET, *[(AGAIN, 0)] * 63, (DOUBLE, 63), (DOUBLE, 63))
        self.assertEqual(given[-2:], [[0, 64], [-4]])

    def test_a_message_leaves_before_another_is_sent_on_its_arrival(self):
        play = Play(opened=False)
        play.fill_net()
        self.assertEqual(play.ask(DELIVER, 1), [0])
        self.assertEqual(play.numbers(), list(range(2, 66)))
        self.assertEqual(play.net.lost, 0)

    def test_the_second_message_sent_on_an_arrival_finds_it_full(self):
        play = Play()
        play.ask(PRESS, 0, 5)
        play.fill_net()
        self.assertEqual(play.numbers(), list(range(7, 71)))
        play.ask(DELIVER, 7)
        self.assertEqual(play.numbers(), list(range(8, 72)))
        self.assertEqual(play.messages()[-1][:2], (3, 0))
        self.assertEqual(play.net.lost, 1)
        self.assertEqual(play.ask(DROP, 71), [0])
        self.assertEqual(play.ask(DOUBLE, 8), [0, 73])

    def test_nudge_on_a_full_net(self):
        play = Play()
        play.fill_net()
        self.assertEqual(play.ask(NUDGE), [0])
        self.assertEqual(play.net.lost, 2)
        self.assertEqual(play.net.next_number, 73)


class WholeGame(unittest.TestCase):
    def test_through_answers_alone(self):
        """Three moves, the numbers of the messages counted by hand."""
        given = replies(
            (SET, 1000, 1000, 10, 0), *OPENING,
            (TICK, 100), (PRESS, 0, 1), (DELIVER, 7), (DELIVER, 8), (DELIVER, 9), (DELIVER, 10), (DELIVER, 11),
            (TICK, 200), (PRESS, 1, 2), (DELIVER, 12), (DELIVER, 13), (DELIVER, 14), (DELIVER, 15), (DELIVER, 16),
            (TICK, 300), (PRESS, 0, 3), (DELIVER, 17), (DELIVER, 18), (DELIVER, 19),
            (TICK, 809), (TICK, 1), (PRESS, 1, 4))
        self.assertEqual([reply for reply in given if reply != [0]], [
            [0, 100, 0], [0, 1, 100], [0, 300, 0], [0, 1, 200], [0, 600, 0], [0, 2, 300],
            [0, 1409, 0], [0, 1410, 1], [0, 2, 810]])


if __name__ == "__main__":
    unittest.main()
