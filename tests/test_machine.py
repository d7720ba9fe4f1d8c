"""What a machine does when news arrives."""

import unittest

from netduel.messages import News
from play import AGAIN, DELIVER, DROP, NUDGE, OPENING, PRESS, SET, TICK, Play, replies


def news(side, place, moves, handled=0, banks=(11, 22), result=0, epoch=1):
    return News(side, epoch, place, list(moves), handled, banks, result)


class Start(unittest.TestCase):
    def start(self, side, *moves):
        """A table at time 50 whose machine of the side knows just these moves since 10, and is on."""
        play = Play(opened=False)
        play.ask(TICK, 10)
        play.arrive(news(side, 0, moves, banks=(1, 2)))
        play.clear()
        play.ask(TICK, 40)
        self.assertEqual(play.machine(side).moves, list(moves))
        return play


class AnotherEpoch(Start):
    def test_nothing(self):
        for epoch in (0, 2):
            play = Play(opened=False)
            before = play.state()
            self.assertEqual(play.arrive(news(0, 0, (5, 6), 9, (11, 22), 3, epoch)), [])
            self.assertEqual(play.state(), before)


class Moves(Start):
    def check(self, known, place, moves, then):
        play = self.start(0, *known)
        sent = play.arrive(news(0, place, moves))
        self.assertEqual(play.machine(0).moves, list(then))
        self.assertEqual(sent, [(2, 0, 1, len(then))])

    def test_from_what_it_knows_on(self):
        self.check((), 0, (), ())
        self.check((), 0, (5,), (5,))
        self.check((), 0, (5, 6, 7, 8), (5, 6, 7, 8))
        self.check((5, 6), 2, (7,), (5, 6, 7))
        self.check((5, 6), 2, (), (5, 6))

    def test_known_already_in_part(self):
        self.check((5, 6, 7), 0, (5, 6, 7, 8), (5, 6, 7, 8))
        self.check((5, 6, 7), 1, (6, 7, 8, 9), (5, 6, 7, 8, 9))
        self.check((5, 6, 7), 2, (7, 8, 9), (5, 6, 7, 8, 9))

    def test_known_already_in_whole(self):
        self.check((5, 6, 7), 0, (5, 6, 7), (5, 6, 7))
        self.check((5, 6, 7), 0, (5, 6), (5, 6, 7))
        self.check((5, 6, 7), 1, (6,), (5, 6, 7))
        self.check((5, 6, 7), 0, (), (5, 6, 7))

    def test_a_place_beyond_what_it_knows(self):
        self.check((), 1, (6, 7), ())
        self.check((5, 6), 3, (8,), (5, 6))
        self.check((5, 6), 3, (), (5, 6))

    def test_a_place_beyond_turns_it_on_all_the_same(self):
        play = Play(opened=False)
        play.ask(TICK, 9)
        play.arrive(news(0, 1, (6, 7), 0, (11, 22), 0))
        machine = play.machine(0)
        self.assertEqual((machine.on, machine.moves, machine.learned, machine.banks), (True, [], 9, (11, 22)))

    def test_the_news_is_not_changed(self):
        play = Play(opened=False)
        message = news(0, 0, (5, 6))
        play.arrive(message)
        play.arrive(news(0, 2, (7, 8)))
        self.assertEqual(message.moves, [5, 6])


class MoreThanFourBehind(unittest.TestCase):
    def test_news_and_acks_bring_it_up(self):
        play = Play()
        # The house takes machine 1 for one that knows nothing, and so does the machine.
        play.make_moves(*range(10, 20))
        play.seat(1).acked = 0
        play.machine(1).moves = []
        play.ask(NUDGE)
        sent = []
        while play.numbers():
            sent.extend(play.messages()[:1])
            play.ask(DELIVER, play.numbers()[0])
        moves = [message[4] for message in sent if message[:2] == (3, 1)]
        acks = [message[3] for message in sent if message[:2] == (2, 1)]
        self.assertEqual(moves, [(10, 11, 12, 13), (14, 15, 16, 17), (18, 19)])
        self.assertEqual(acks, [4, 8, 10])
        self.assertEqual(play.machine(1).moves, play.house.log)
        self.assertEqual(play.seat(1).acked, 10)

    def settle_without_acks_of_side_0(self, play):
        while play.numbers():
            number = play.numbers()[0]
            is_lost = play.messages()[0][:2] == (2, 0)
            play.ask(DROP if is_lost else DELIVER, number)

    def test_acks_that_are_lost(self):
        # While no ack of side 0 arrives its news begins at place 0 and brings no more than 4 moves.
        play = Play()
        for move in range(10, 16):
            self.assertEqual(play.ask(PRESS, play.house.side_to_move(), move)[0], 0)
            self.settle_without_acks_of_side_0(play)
        self.assertEqual(play.house.log, [10, 11, 12, 13, 14, 15])
        self.assertEqual((play.machine(0).moves, play.seat(0).acked), ([10, 11, 12, 13], 0))
        # By what it knows it is still to move; of what it asks for nothing comes.
        self.assertEqual(play.ask(PRESS, 0, 16), [0, 4, 0])
        self.settle_without_acks_of_side_0(play)
        self.assertEqual((len(play.house.log), play.seat(0).handled), (6, 4))
        # An ack comes through: the house tells it the rest.
        play.ask(AGAIN, 0)
        play.settle()
        self.assertEqual((play.machine(0).moves, play.seat(0).acked), (play.house.log, 6))
        self.assertEqual(play.ask(PRESS, 0, 16), [0, 5, 0])


class RequestHeardOf(Start):
    def start_with_request(self):
        play = Play()
        play.make_moves(5, 6)
        self.assertEqual(play.ask(PRESS, 0, 7), [0, 2, 0])
        play.clear()
        return play

    def test_handled_less_than_its_number(self):
        play = self.start_with_request()
        for handled in (0, 1):
            play.arrive(news(0, 2, (), handled))
            self.assertEqual(play.machine(0).request.number, 2)

    def test_handled_its_number_or_more(self):
        for handled in (2, 3):
            play = self.start_with_request()
            play.arrive(news(0, 2, (), handled))
            self.assertIsNone(play.machine(0).request)
            self.assertEqual(play.machine(0).next_request, 3)

    def test_also_by_old_moves_or_beyond_a_gap(self):
        for place, moves in ((0, (5,)), (3, (8,))):
            play = self.start_with_request()
            play.arrive(news(0, place, moves, 2))
            self.assertIsNone(play.machine(0).request)

    def test_no_request_is_there(self):
        play = self.start(0)
        play.arrive(news(0, 0, (), 5))
        self.assertIsNone(play.machine(0).request)
        self.assertEqual(play.machine(0).next_request, 1)

    def test_a_move_of_which_nothing_came_may_be_made_again(self):
        given = replies((SET, 500, 500, 0, 0), (AGAIN, 0), (DELIVER, 1), (DELIVER, 2), (PRESS, 0, 5), (DELIVER, 4),
                        (DELIVER, 5), (TICK, 3), (PRESS, 0, 5))
        # Side 1 wasn't here: the clock didn't run, the first request came to nothing.
        self.assertEqual(given[-1], [0, 2, 3])


class Learned(Start):
    def learned(self, side, known, place, moves):
        play = self.start(side, *known)
        play.arrive(news(side, place, moves))
        return play.machine(side).learned

    def test_it_knows_more_and_its_side_is_to_move(self):
        self.assertEqual(self.learned(0, (5,), 1, (6,)), 50)
        self.assertEqual(self.learned(1, (), 0, (5,)), 50)
        self.assertEqual(self.learned(1, (5,), 1, (6, 7)), 50)

    def test_it_knows_more_and_the_other_side_is_to_move(self):
        self.assertEqual(self.learned(0, (), 0, (5,)), 10)
        self.assertEqual(self.learned(1, (5,), 1, (6,)), 10)

    def test_it_knows_no_more(self):
        self.assertEqual(self.learned(0, (), 0, ()), 10)
        self.assertEqual(self.learned(0, (5, 6), 0, (5, 6)), 10)
        self.assertEqual(self.learned(0, (5, 6), 3, (8,)), 10)

    def test_it_was_not_on_before(self):
        for side, moves, learned in ((0, (), 10), (0, (5,), 0), (0, (5, 6), 10), (1, (), 0), (1, (5,), 10)):
            with self.subTest(side=side, moves=moves):
                self.assertEqual(self.start(side, *moves).machine(side).learned, learned)

    def test_by_its_own_move_it_learns_nothing(self):
        play = Play()
        play.ask(TICK, 30)
        play.make_moves(5)
        self.assertEqual(play.machine(0).learned, 0)
        self.assertEqual(play.machine(1).learned, 30)


class Banks(Start):
    def banks(self, known, place, moves):
        play = self.start(0, *known)
        play.arrive(news(0, place, moves))
        return play.machine(0).banks

    def test_up_to_what_it_knew_or_beyond(self):
        self.assertEqual(self.banks((), 0, ()), (11, 22))
        self.assertEqual(self.banks((5, 6), 2, ()), (11, 22))
        self.assertEqual(self.banks((5, 6), 0, (5, 6)), (11, 22))
        self.assertEqual(self.banks((5, 6), 1, (6, 7)), (11, 22))
        self.assertEqual(self.banks((5, 6), 3, ()), (11, 22))
        self.assertEqual(self.banks((5, 6), 3, (8,)), (11, 22))

    def test_less_than_it_knew(self):
        self.assertEqual(self.banks((5, 6), 0, (5,)), (1, 2))
        self.assertEqual(self.banks((5, 6), 1, ()), (1, 2))
        self.assertEqual(self.banks((5,), 0, ()), (1, 2))


class Result(Start):
    def test_other_than_0(self):
        for result in (1, 2, 3):
            play = self.start(0)
            play.arrive(news(0, 0, (), result=result))
            self.assertEqual(play.machine(0).result, result)

    def test_0_does_not_take_it_back(self):
        play = self.start(0)
        play.arrive(news(0, 0, (), result=2))
        play.arrive(news(0, 0, (5,), result=0))
        self.assertEqual(play.machine(0).result, 2)

    def test_also_by_old_moves_or_beyond_a_gap(self):
        for place, moves in ((0, (5,)), (4, (9,))):
            play = self.start(0, 5, 6)
            play.arrive(news(0, place, moves, result=1))
            self.assertEqual(play.machine(0).result, 1)


class AnOldOneComesLate(unittest.TestCase):
    def test_nothing_is_taken_back(self):
        play = Play(1000, 1000)
        play.ask(TICK, 10)
        play.ask(PRESS, 0, 5)
        play.ask(DELIVER, 7)
        play.ask(NUDGE)
        # News 9 and 11 are side 1's, of the first move; 11 is kept back.
        play.ask(DELIVER, 9)
        play.ask(TICK, 20)
        self.assertEqual(play.ask(PRESS, 1, 6), [0, 1, 20])
        for number in play.numbers():
            if number != 11:
                play.ask(DELIVER, number)
        for number in play.numbers():
            if number != 11:
                play.ask(DELIVER, number)
        play.ask(TICK, 5)
        machine = play.machine(1)
        before = (machine.moves, machine.learned, machine.banks, machine.result, machine.request)
        self.assertEqual(before, ([5, 6], 10, (990, 980), 0, None))
        play.clear_but(11)
        play.ask(DELIVER, 11)
        self.assertEqual((machine.moves, machine.learned, machine.banks, machine.result, machine.request), before)
        self.assertEqual(play.messages(), [(2, 1, 1, 2)])

    def test_as_the_answers_show_it(self):
        # News 3 is doubled by a nudge (7); the second one arrives late and is no reason to begin thinking anew.
        given = replies((SET, 500, 500, 0, 0), *OPENING, (NUDGE,), (TICK, 10), (DELIVER, 7), (PRESS, 0, 5),
                        (DELIVER, 8), (PRESS, 1, 5))
        self.assertEqual(given[-3:], [[0, 1, 10], [0], [-3]])


class TheAck(Start):
    def test_it_is_sent_on_every_news_of_its_epoch(self):
        play = self.start(1, 5, 6, 7)
        self.assertEqual(play.arrive(news(1, 3, (8, 9))), [(2, 1, 1, 5)])
        self.assertEqual(play.arrive(news(1, 0, (5,))), [(2, 1, 1, 5)])
        self.assertEqual(play.arrive(news(1, 9, (1,))), [(2, 1, 1, 5)])

    def test_the_other_machine_is_not_touched(self):
        play = self.start(1, 5, 6, 7)
        machine = play.machine(0)
        self.assertEqual((machine.on, machine.moves, machine.banks), (False, [], (0, 0)))


if __name__ == "__main__":
    unittest.main()
