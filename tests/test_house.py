"""What the house does when a hello, a request or an ack arrives, and what its news says."""

import unittest

from netduel.messages import Ack, Hello, Request
from play import AGAIN, DELIVER, DOUBLE, DROP, NUDGE, OPENING, PRESS, SET, TICK, Play, replies


class HelloArrives(unittest.TestCase):
    def test_a_greater_epoch(self):
        play = Play(500, 600, opened=False)
        sent = play.arrive(Hello(1, 1))
        self.assertEqual(sent, [(3, 1, 1, 0, (), 0, 500, 600, 0)])
        self.assertEqual((play.seat(1).epoch, play.seat(1).here), (1, True))
        self.assertFalse(play.seat(0).here)
        self.assertFalse(play.house.runs)

    def test_a_greater_epoch_begins_handled_and_acked_anew(self):
        play = Play()
        play.make_moves(5, 6, 7, 8, 9)
        self.assertEqual((play.seat(0).handled, play.seat(0).acked), (3, 5))
        bank, spent = play.seat(0).bank, play.seat(0).spent
        sent = play.arrive(Hello(0, 4))
        seat = play.seat(0)
        self.assertEqual((seat.epoch, seat.handled, seat.acked, seat.here), (4, 0, 0, True))
        self.assertEqual((seat.bank, seat.spent), (bank, spent))
        self.assertEqual(sent, [(3, 0, 4, 0, (5, 6, 7, 8), 0, 100000, 100000, 0)])
        self.assertEqual((play.seat(1).epoch, play.seat(1).handled, play.seat(1).acked), (1, 2, 5))

    def test_the_same_epoch(self):
        play = Play()
        play.make_moves(5, 6, 7)
        sent = play.arrive(Hello(0, 1))
        seat = play.seat(0)
        self.assertEqual((seat.epoch, seat.handled, seat.acked), (1, 2, 3))
        self.assertEqual(sent, [(3, 0, 1, 3, (), 2, 100000, 100000, 0)])

    def test_the_same_epoch_is_heard(self):
        play = Play()
        play.seat(0).here = False
        play.arrive(Hello(0, 1))
        self.assertTrue(play.seat(0).here)

    def test_a_lesser_epoch(self):
        play = Play()
        play.arrive(Hello(0, 3))
        play.seat(0).here = False
        before = play.state()
        for epoch in (1, 2):
            self.assertEqual(play.arrive(Hello(0, epoch)), [])
            self.assertEqual(play.state(), before)

    def test_hello_comes_twice(self):
        given = replies((SET, 500, 500, 0, 0), (AGAIN, 0), (DOUBLE, 1), (DELIVER, 1), (DELIVER, 2), (DROP, 3),
                        (DROP, 4), (DROP, 5))
        self.assertEqual(given[3:], [[0], [0], [0], [0], [-2]])


class TheClockBegins(unittest.TestCase):
    def test_when_both_sides_are_here(self):
        for first in (0, 1):
            play = Play(opened=False)
            play.ask(TICK, 10)
            play.arrive(Hello(first, 1))
            self.assertFalse(play.house.runs)
            play.ask(TICK, 30)
            self.assertEqual(play.house.has_had(play.table.time), 0)
            play.arrive(Hello(1 - first, 1))
            self.assertEqual((play.house.runs, play.house.since), (True, 40))
            play.ask(TICK, 5)
            self.assertEqual(play.house.has_had(play.table.time), 5)

    def test_as_the_answers_show_it(self):
        given = replies((SET, 100, 100, 0, 0), (AGAIN, 0), (AGAIN, 1), (DELIVER, 1), (TICK, 5000), (DELIVER, 2),
                        (TICK, 99), (TICK, 1))
        self.assertEqual(given[-2:], [[0, 5099, 0], [0, 5100, 2]])

    def test_a_clock_that_runs_goes_on_since_when_it_ran(self):
        play = Play()
        play.ask(TICK, 30)
        play.arrive(Hello(0, 1))
        play.arrive(Ack(1, 1, 0))
        self.assertEqual((play.house.runs, play.house.since), (True, 0))

    def test_it_does_not_begin_once_there_is_a_result(self):
        play = Play(bank0=100)
        play.ask(TICK, 100)
        self.assertFalse(play.house.runs)
        play.arrive(Hello(0, 1))
        play.arrive(Hello(1, 1))
        self.assertFalse(play.house.runs)

    def test_a_request_and_an_ack_are_heard_too(self):
        for message in (Request(0, 1, 9, 0, 5, 0), Ack(0, 1, 0)):
            play = Play()
            play.seat(0).here = False
            play.house.runs = False
            play.ask(TICK, 12)
            play.arrive(message)
            self.assertTrue(play.seat(0).here)
            self.assertEqual((play.house.runs, play.house.since), (True, 12))


class RequestArrives(unittest.TestCase):
    def test_the_next_number_is_handled_and_both_sides_are_told(self):
        play = Play(1000, 2000, 7, 0)
        play.ask(TICK, 100)
        sent = play.arrive(Request(0, 1, 1, 0, 5, 100))
        self.assertEqual(play.house.log, [5])
        self.assertEqual(play.seat(0).handled, 1)
        self.assertEqual(sent, [
            (3, 0, 1, 0, (5,), 1, 907, 2000, 0),
            (3, 1, 1, 0, (5,), 0, 907, 2000, 0),
        ])

    def test_the_asking_side_is_told_first(self):
        play = Play()
        play.make_moves(5)
        sent = play.arrive(Request(1, 1, 1, 1, 6, 0))
        self.assertEqual([message[:2] for message in sent], [(3, 1), (3, 0)])

    def test_another_side_that_is_not_here_is_told_nothing(self):
        play = Play(opened=False)
        play.arrive(Hello(0, 1))
        sent = play.arrive(Request(0, 1, 1, 0, 5, 0))
        self.assertEqual(sent, [(3, 0, 1, 0, (), 1, 100000, 100000, 0)])
        self.assertEqual(play.house.log, [])

    def test_a_move_of_which_nothing_comes_is_handled_all_the_same(self):
        play = Play()
        sent = play.arrive(Request(1, 1, 1, 0, 5, 0))
        self.assertEqual((play.house.log, play.seat(1).handled), ([], 1))
        self.assertEqual([message[:2] for message in sent], [(3, 1), (3, 0)])
        self.assertEqual(sent[0][5], 1)

    def test_another_epoch(self):
        for epoch in (1, 3):
            play = Play()
            play.arrive(Hello(0, 2))
            play.seat(0).here = False
            before = play.state()
            self.assertEqual(play.arrive(Request(0, epoch, 1, 0, 5, 0)), [])
            self.assertEqual(play.state(), before)

    def test_a_number_that_is_handled_already(self):
        play = Play()
        play.make_moves(5, 6)
        for number in (0, 1):
            sent = play.arrive(Request(0, 1, number, 2, 9, 0))
            self.assertEqual(play.house.log, [5, 6])
            self.assertEqual(play.seat(0).handled, 1)
            self.assertEqual(sent, [(3, 0, 1, 2, (), 1, 100000, 100000, 0)])

    def test_a_number_too_great(self):
        play = Play()
        for number in (2, 3):
            sent = play.arrive(Request(0, 1, number, 0, 5, 0))
            self.assertEqual((play.house.log, play.seat(0).handled), ([], 0))
            self.assertEqual(sent, [(3, 0, 1, 0, (), 0, 100000, 100000, 0)])

    def test_a_late_double_as_the_answers_show_it(self):
        given = replies((SET, 500, 500, 0, 0), *OPENING, (PRESS, 0, 5), (DOUBLE, 7), (DELIVER, 7), (DELIVER, 8),
                        (DROP, 9), (DROP, 10), (DROP, 11), (DROP, 12))
        self.assertEqual(given[-4:], [[0], [0], [0], [-2]])


class AckArrives(unittest.TestCase):
    def start(self):
        play = Play()
        play.make_moves(5, 6, 7, 8, 9, 10)
        play.arrive(Hello(0, 2))
        play.clear()
        self.assertEqual(play.seat(0).acked, 0)
        return play

    def test_fewer_than_the_log_has(self):
        play = self.start()
        sent = play.arrive(Ack(0, 2, 1))
        self.assertEqual(play.seat(0).acked, 1)
        self.assertEqual(sent, [(3, 0, 2, 1, (6, 7, 8, 9), 0, 100000, 100000, 0)])
        sent = play.arrive(Ack(0, 2, 5))
        self.assertEqual(sent, [(3, 0, 2, 5, (10,), 0, 100000, 100000, 0)])

    def test_as_many_as_the_log_has(self):
        play = self.start()
        self.assertEqual(play.arrive(Ack(0, 2, 6)), [])
        self.assertEqual(play.seat(0).acked, 6)

    def test_more_than_the_log_has(self):
        play = self.start()
        for known in (7, 60):
            self.assertEqual(play.arrive(Ack(0, 2, known)), [])
            self.assertEqual(play.seat(0).acked, 0)

    def test_no_more_than_acked(self):
        play = self.start()
        self.assertEqual(play.arrive(Ack(0, 2, 0)), [])
        play.arrive(Ack(0, 2, 3))
        for known in (3, 2, 0):
            self.assertEqual(play.arrive(Ack(0, 2, known)), [])
            self.assertEqual(play.seat(0).acked, 3)

    def test_an_ack_that_acks_nothing_is_heard(self):
        for known in (0, 7):
            play = self.start()
            play.seat(0).here = False
            play.arrive(Ack(0, 2, known))
            self.assertTrue(play.seat(0).here)

    def test_another_epoch(self):
        for epoch in (1, 3):
            play = self.start()
            play.seat(0).here = False
            before = play.state()
            self.assertEqual(play.arrive(Ack(0, epoch, 6)), [])
            self.assertEqual(play.state(), before)

    def test_it_counts_for_its_own_side_alone(self):
        play = Play()
        play.ask(PRESS, 0, 5)
        play.ask(DELIVER, 7)
        play.arrive(Ack(1, 1, 1))
        self.assertEqual([play.seat(side).acked for side in (0, 1)], [0, 1])


class News(unittest.TestCase):
    def test_at_most_four_moves_from_acked_on(self):
        play = Play()
        play.make_moves(*range(10, 17))
        for acked, moves in ((0, (10, 11, 12, 13)), (2, (12, 13, 14, 15)), (3, (13, 14, 15, 16)), (4, (14, 15, 16)),
                             (6, (16,)), (7, ())):
            play.seat(1).acked = acked
            play.ask(NUDGE)
            self.assertEqual(play.messages()[1], (3, 1, 1, acked, moves, 3, 100000, 100000, 0))
            play.clear()

    def test_banks_as_they_stand_while_the_clock_runs(self):
        play = Play(1000, 2000)
        play.ask(TICK, 300)
        play.ask(NUDGE)
        self.assertEqual(play.messages()[0], (3, 0, 1, 0, (), 0, 1000, 2000, 0))

    def test_the_result(self):
        play = Play(1000, 2000)
        play.ask(TICK, 1000)
        play.ask(NUDGE)
        self.assertEqual(play.messages(), [(3, 0, 1, 0, (), 0, 0, 2000, 2), (3, 1, 1, 0, (), 0, 0, 2000, 2)])


class MoveLookedAt(unittest.TestCase):
    """Of each request the number is the next one, so that only the move itself decides."""

    def nothing_comes_of(self, play, request):
        log, banks = list(play.house.log), [play.seat(side).bank for side in (0, 1)]
        clock, result = (play.house.runs, play.house.since), play.house.result
        play.arrive(request)
        self.assertEqual(play.house.log, log)
        self.assertEqual([play.seat(side).bank for side in (0, 1)], banks)
        self.assertEqual((play.house.runs, play.house.since), clock)
        self.assertEqual(play.house.result, result)
        self.assertEqual(play.seat(request.side).handled, request.number)

    def start(self):
        play = Play()
        play.make_moves(5, 6)
        play.ask(TICK, 10)
        return play

    def test_it_becomes_the_log_s_last(self):
        play = self.start()
        play.arrive(Request(0, 1, 2, 2, 7, 0))
        self.assertEqual(play.house.log, [5, 6, 7])
        self.assertEqual((play.house.runs, play.house.since), (True, 10))

    def test_a_result_is_there(self):
        # The clock is set running by hand: the result alone is the reason.
        play = self.start()
        play.house.result = 3
        self.assertTrue(play.house.runs)
        self.nothing_comes_of(play, Request(0, 1, 2, 2, 7, 0))

    def test_a_result_is_there_as_the_answers_show_it(self):
        given = replies((SET, 100, 100, 0, 0), *OPENING, (TICK, 100), (PRESS, 0, 5), (DELIVER, 7), (DELIVER, 9),
                        (PRESS, 1, 6), (TICK, 100))
        self.assertEqual(given[-6:], [[0, 100, 2], [0, 1, 100], [0], [0], [-3], [0, 200, 2]])

    def test_the_clock_does_not_run(self):
        play = Play(opened=False)
        play.arrive(Hello(0, 1))
        self.nothing_comes_of(play, Request(0, 1, 1, 0, 7, 0))

    def test_the_side_is_not_to_move(self):
        self.nothing_comes_of(self.start(), Request(1, 1, 2, 2, 7, 0))

    def test_the_ply_is_less_or_more(self):
        for ply in (0, 1, 3, 4):
            self.nothing_comes_of(self.start(), Request(0, 1, 2, ply, 7, 0))

    def test_the_same_as_the_log_s_last(self):
        self.nothing_comes_of(self.start(), Request(0, 1, 2, 2, 6, 0))
        play = self.start()
        play.arrive(Request(0, 1, 2, 2, 5, 0))
        self.assertEqual(play.house.log, [5, 6, 5])

    def test_the_first_move_has_none_before_it(self):
        for move in (0, 999):
            play = Play()
            play.arrive(Request(0, 1, 1, 0, move, 0))
            self.assertEqual(play.house.log, [move])

    def test_a_request_that_makes_the_clock_run_is_looked_at_with_it_running(self):
        play = Play()
        play.seat(0).here = False
        play.house.runs = False
        play.ask(TICK, 40)
        play.arrive(Request(0, 1, 1, 0, 5, 40))
        self.assertEqual((play.house.log, play.seat(0).bank), ([5], 100000))


class TheSixtiethMove(unittest.TestCase):
    def start(self, increment=0):
        play = Play(1000, 1000, increment)
        play.make_moves(*([1, 2] * 29), 1)
        self.assertEqual(len(play.house.log), 59)
        self.assertEqual((play.house.result, play.house.runs), (0, True))
        return play

    def test_it_is_even_and_the_clock_does_not_run(self):
        play = self.start(increment=3)
        play.ask(TICK, 50)
        play.make_moves(2)
        self.assertEqual(len(play.house.log), 60)
        self.assertEqual((play.house.result, play.house.runs), (3, False))
        self.assertEqual((play.seat(1).bank, play.seat(1).spent), (1000 + 30 * 3 - 50, 50))
        self.assertEqual(play.ask(TICK, 100000), [0, 100050, 3])
        self.assertEqual(play.seat(0).spent, 0)

    def test_time_may_be_up_by_it(self):
        play = self.start()
        play.ask(TICK, 999)
        play.ask(PRESS, 1, 2)
        play.house.seats[1].bank = 999
        play.settle()
        self.assertEqual((len(play.house.log), play.house.result), (59, 1))

    def test_nothing_comes_behind_it(self):
        play = self.start()
        play.make_moves(2)
        play.arrive(Request(0, 1, 31, 60, 7, 0))
        self.assertEqual((len(play.house.log), play.house.result), (60, 3))


if __name__ == "__main__":
    unittest.main()
